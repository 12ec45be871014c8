/- Texts that serve the walks, put together: plain lists, small laws, small walks. -/
import Derived.Test.YtobepdmpacdakaaGreatQ
import Derived.OwnWalk
import Derived.Deep.LoopGhost
import Derived.Test.YtobepdmpacdakaaGreatChecked
import Derived.Shelf.RegionOpenPlain
import Derived.Deep.Draws
import Derived.Laws.Strings3
import Derived.BigGuard
import Derived.BigQuiet
import Derived.StillTailTactics
import Derived.RangeFuncNested
import Derived.RangeFuncBox
import Derived.RangeFuncBound
import Derived.RangeFuncCalls
import Derived.RangeFuncLeaves
import Derived.Shelf.Abstract
import Derived.Shelf.RegionOpen
import Derived.WalkKit
import Derived.OwnWalkIn
import Derived.TacticsInMore
import Derived.LoopNIn
import Derived.LoopIn
import Derived.Shelf.Strings.Builder1
import Derived.Lib.Builder
import Derived.Lib.AppendStr
import Derived.RangeFuncRecord
import Derived.Shelf.SlSortCmp.Kit1
import Derived.Deep.RegionHeld3
import Derived.Laws.StructEq
set_option linter.unusedVariables false
set_option linter.unusedSimpArgs false
/- Walks: the parts' entries in one list. -/
namespace Go.Proofs.YtobepdmpacdakaaGreat
open Go.RowKit

theorem infoE : (Tryz.prog.info? 90).map (fun i => (i.zero, i.size, i.bytes)) = some (some (.agg #[.string ⟨#[]⟩, .int .i64 0]), 2, 24) := by kernel_rfl
theorem sizeE : (Tryz.prog.info? 90).map (·.size) = some 2 := by kernel_rfl

/-- A slice of slices of entries. -/
def Parts (w : World) (v : Value) (ps : List (List Ent)) : Prop :=
  ∃ a cap, v = .slice a ps.length cap ∧ (0 < ps.length → ∃ b off, a = some ⟨b, off, none⟩ ∧ b < w.heap.size ∧ ∀ i (h : i < ps.length), ∃ x, w.cell? ⟨b, off + i, none⟩ = some x ∧ Ents w x ps[i])

/-- New entries: a block of the call's own. -/
def NewEnts (w : World) (L : List Ent) (e : Ending) (w' : World) : Prop :=
  ∃ g, e = .returned (.slice (some ⟨g, 0, none⟩) L.length L.length) ∧ w.heap.size ≤ g ∧ Blk w' g 90 (entsV L).toArray ∧ Below w.heap.size w w'
theorem blk_ents {w : World} {g : Nat} {t : TypeId} {L : List Ent} (h : Blk w g t (entsV L).toArray) (hl : L.length ≤ maxLen) : Ents w (.slice (some ⟨g, 0, none⟩) L.length L.length) L := by
  refine ⟨_, _, rfl, Nat.le_refl _, hl, fun _ => ⟨g, 0, rfl, h.lt, fun i hi => ?_⟩⟩
  rw [h.cell, h.cell, Nat.zero_add]
  simpa using entsV_at L i hi

theorem flat_take (ps : List (List Ent)) (k : Nat) (h : k < ps.length) : (ps.take (k + 1)).flatten = (ps.take k).flatten ++ ps[k] := by
  rw [List.take_succ_eq_append_getElem h, List.flatten_append]; simp
theorem flat_le (ps : List (List Ent)) (k : Nat) : (ps.take k).flatten.length ≤ ps.flatten.length := by
  conv => rhs; rw [← List.take_append_drop k ps, List.flatten_append, List.length_append]
  omega
theorem flat_mem {ps : List (List Ent)} {k : Nat} (h : k < ps.length) {e : Ent} (he : e ∈ ps[k]) : e ∈ ps.flatten := List.mem_flatten.2 ⟨_, List.getElem_mem h, he⟩

def flatN (ps : List (List Ent)) (k : Nat) : Nat := (ps.take k).flatten.length
theorem flatN_next {ps : List (List Ent)} {k : Nat} (h : k < ps.length) : flatN ps (k + 1) = flatN ps k + ps[k].length := by
  unfold flatN; rw [flat_take ps k h, List.length_append]
theorem flatN_le (ps : List (List Ent)) (k : Nat) : flatN ps k ≤ ps.flatten.length := flat_le ps k
theorem flatN_end (ps : List (List Ent)) : flatN ps ps.length = ps.flatten.length := by unfold flatN; rw [List.take_length]
theorem splice_ents (F p : List Ent) (Z : List Value) (h : p.length * 2 ≤ Z.length) : splice (entsV F ++ Z) (F.length * 2) (entsV p) = entsV (F ++ p) ++ Z.drop (p.length * 2) := by
  unfold splice
  rw [entsV_append, List.take_append_of_le_length (by rw [entsV_len]; exact Nat.le_refl _), List.take_of_length_le (by rw [entsV_len]; exact Nat.le_refl _), entsV_len,
    List.drop_append, entsV_len, List.drop_eq_nil_of_le (by rw [entsV_len]; omega), List.nil_append, show F.length * 2 + p.length * 2 - F.length * 2 = p.length * 2 from by omega, List.append_assoc]

set_option maxHeartbeats 2000000 in
theorem join_any (ps : List (List Ent)) (v : Value) (w : World) (hv : Parts w v ps) (hp : ps.length ≤ 1000000) (hn : ps.flatten.length ≤ 1000000) (hsh : shortP 100000000 ps.flatten) :
    Calls Tryz.prog 93 #[v] w (NewEnts w ps.flatten) := by
  obtain ⟨a, ca, rfl, HA0⟩ := hv
  have HA := Lib.hid HA0
  have HSH := Lib.hid hsh
  clear HA0 hsh
  obtain ⟨i0, hi, hz0, hz1, hz2⟩ := info_parts infoE
  have hle := flatN_le ps
  have hend := flatN_end ps
  generalize hF : ps.flatten = F at *
  have HF := Lib.hid hF
  clear hF
  go_enter Tryz.func93, Tryz.ntmps93
  go_wp2
  go_loop [3, 13] (fun s3 s13 => ∃ k : Nat, k ≤ ps.length ∧ s13 = .int .i64 k ∧ s3 = .int .i64 (flatN ps k)) (fun _ s13 => ps.length - (intOf s13).toNat)
  case atStart => exact ⟨0, Nat.zero_le _, rfl, rfl⟩
  case round =>
    obtain ⟨k, hk, rfl, rfl⟩ := hrel
    by_cases hlt : k < ps.length
    · obtain ⟨b, o, rfl, hb, hcl⟩ := HA.out (by omega)
      obtain ⟨x, c1, ⟨ax, cx, rfl, hx1, hx2, hx3⟩⟩ := hcl k hlt
      clear hcl hx3 hx1 hx2
      have hf1 := hle (k + 1)
      have HN := Lib.hid (flatN_next hlt)
      have hfl : flatN ps k + ps[k].length ≤ 1000000 := by rw [HN.out] at hf1; omega
      go_wp2
      go_round
      case rel => exact ⟨k + 1, by omega, by go_num, by rw [HN.out]; go_num⟩
      case measure => simp [intOf]; omega
    · obtain rfl : k = ps.length := by omega
      rw [hend]
      go_wp2_with (at_make; refine wpList_make_full _ rfl _ _ 43 rfl w.heap.size 90 i0 (.agg #[.string ⟨#[]⟩, .int .i64 0]) 2 Tryz.underlying43 hi hz0 hz1 _ _ _ _ F.length rfl rfl rfl rfl (by rw [hz2]; omega) (by unfold maxLen; omega) (Nat.le_refl _) ?_; intro w1 hown hgr)
      have hb1 := (Below.refl w.heap.size w).grown hgr (Nat.le_refl _) (fun k hk => by cases hk)
      have hg1 : w.heap.size < w1.heap.size := (hown.lt _ rfl).2
      have hblk : ∃ Z : List Value, Z.length = F.length * 2 ∧ Blk w1 w.heap.size 90 Z.toArray := by
        rcases hown.2 with ⟨h', _⟩ | ⟨g', cap', cur, h', _, hh, h1, h2, h3, h4⟩
        · simp at h'
        · simp only [Value.slice.injEq, Option.some.injEq, Addr.mk.injEq, and_true, true_and] at h'
          obtain ⟨rfl, rfl⟩ := h'
          exact ⟨cur.toList, by simpa using h3, by simpa [Blk] using hh⟩
      clear hown hgr
      generalize hgg : w.heap.size = g at hblk hg1 ⊢
      have hBg : w.heap.size ≤ g := by omega
      have HGG := Lib.hid hgg
      clear hgg
      go_wp2_with fail
      go_loopw [7, 26] (fun s7 s26 wr => ∃ k : Nat, k ≤ ps.length ∧ s26 = .int .i64 k ∧ s7 = .int .i64 (flatN ps k) ∧ Below w.heap.size w wr ∧ Aside (∃ Z : List Value, Z.length = (F.length - flatN ps k) * 2 ∧ Blk wr g 90 (entsV (ps.take k).flatten ++ Z).toArray)) (fun _ s26 _ => ps.length - (intOf s26).toNat)
      case atStart =>
        obtain ⟨Z, hZ, hB⟩ := hblk
        exact ⟨0, Nat.zero_le _, rfl, rfl, hb1, ⟨Z, hZ, by simpa [entsV] using hB⟩⟩
      case round =>
        clear hblk
        obtain ⟨k, hk, rfl, rfl, hbw, HB⟩ := hrel
        by_cases hlt : k < ps.length
        · obtain ⟨b, o, rfl, hb, hcl⟩ := HA.out (by omega)
          obtain ⟨x, c0, hx⟩ := hcl k hlt
          have c1 : wr.cell? ⟨b, o + k, none⟩ = some x := (hbw.cell (p := ⟨b, o + k, none⟩) hb).trans c0
          clear hcl c0
          have hxs := hx.below hbw
          obtain ⟨ax, cx, rfl, hx1, hx2, hx3⟩ := id hx
          clear hx3 hx1 hx2 hx
          have hf1 := hle (k + 1)
          have HN := Lib.hid (flatN_next hlt)
          have hfl : flatN ps k + ps[k].length ≤ F.length := by rw [HN.out] at hf1; omega
          have hle2 : (flatN ps k : Int) ≤ (F.length : Int) := by omega
          obtain ⟨Z, hZ, hZB⟩ := HB.out
          have hlen : (entsV (ps.take k).flatten ++ Z).length = F.length * 2 := by
            rw [List.length_append, entsV_len, hZ]; show flatN ps k * 2 + _ = _; omega
          have hfit : flatN ps k * 2 + (entsV ps[k]).length ≤ (entsV (ps.take k).flatten ++ Z).length := by rw [hlen, entsV_len]; omega
          have HZ : Hid (Z.length = (F.length - flatN ps k) * 2) := hZ
          have HZB : Hid (wr.heap[g]? = some (.cells (entsV (ps.take k).flatten ++ Z).toArray 90 (0, 0))) := hZB
          have HFT := Lib.hid (flat_take ps k hlt)
          have HFIT := Lib.hid hfit
          have HXS := Lib.hid hxs
          have HSP := Lib.hid (splice_ents (ps.take k).flatten ps[k] Z (by rw [hZ]; omega))
          have HDR : Hid ((Z.drop (ps[k].length * 2)).length = (F.length - flatN ps (k + 1)) * 2) := by
            (show _ = _); rw [List.length_drop, hZ, HN.out]; omega
          clear hZ hZB hlen hfit hxs HB
          have hrun1 := run_copy_zero (P := Tryz.prog) wr 43 43 3 90 2 (some ⟨g, 0, none⟩) ax 0 0 ps[k].length cx Tryz.underlying43 sizeE (Nat.min_zero _)
          obtain ⟨w2, hrun2, hg2, hb2⟩ := run_copy_splice (P := Tryz.prog) wr 43 43 3 90 2 Tryz.underlying43 sizeE g (flatN ps k * 2) (F.length - flatN ps k) (F.length - flatN ps k) ax ps[k].length cx ps[k].length (Nat.min_eq_left (by omega)) _ 90 HZB.out (entsV ps[k]) (entsV_len _)
            (fun hm0 => by obtain ⟨ad, e1, _, e2⟩ := HXS.out.src hm0; exact ⟨ad, e1, e2⟩) HFIT.out (entsV_one _)
          have HG2 := Lib.hid hg2
          have hb3 := hb2 _ _ hbw hBg
          clear hg2 hb2
          by_cases hfull : flatN ps k = F.length
          · have hp0 : ps[k].length = 0 := by omega
            have HP0 := Lib.hid hp0
            have HFL := Lib.hid hfull
            clear hrun2 hp0
            go_wp2
            go_roundw
            case rel => exact ⟨k + 1, by omega, by go_num, by have := HN.out; have := HP0.out; have := HFL.out; simp; omega, hbw, ⟨Z, by have := HZ.out; have := HN.out; have := HP0.out; omega, by
              rw [HFT.out, show ps[k] = [] from List.eq_nil_of_length_eq_zero HP0.out, List.append_nil]; exact HZB.out⟩⟩
            case measure => simp [intOf]; omega
          · have hlt2 : (flatN ps k : Int) < (F.length : Int) := by omega
            clear hrun1
            go_wp2
            go_roundw
            case rel => exact ⟨k + 1, by omega, by go_num, by rw [HN.out]; go_num, hb3, ⟨_, HDR.out, by
              have := HG2.out
              rw [show flatN ps k * 2 = (ps.take k).flatten.length * 2 from rfl, HSP.out] at this
              rw [HFT.out]; exact this⟩⟩
            case measure => simp [intOf]; omega
        · obtain rfl : k = ps.length := by omega
          obtain ⟨Z, hZ, hZB⟩ := HB.out
          have hZ0 : Z = [] := List.eq_nil_of_length_eq_zero (by omega)
          have HBF : Hid (Blk wr g 90 (entsV F).toArray) := by
            have h1 := hZB
            rw [hZ0, List.append_nil, List.take_length, HF.out] at h1; exact h1
          clear HB hZ hZB hZ0
          rw [hend]
          go_wp2
          go_loopw [40] (fun s40 wx => ∃ k : Nat, k ≤ F.length ∧ s40 = .int .i64 k ∧ Below w.heap.size w wx ∧ Aside (Blk wx g 90 (entsV F).toArray)) (fun s40 _ => F.length - (intOf s40).toNat)
          case atStart => exact ⟨0, Nat.zero_le _, rfl, hbw, HBF.out⟩
          case round =>
            clear hbw HBF
            obtain ⟨k, hk, rfl, hbx, HB⟩ := hrel
            by_cases hlt : k < F.length
            · have hen := entsV_at F k hlt
              have c1 : wr.cell? ⟨g, k * 2, none⟩ = some (.string ⟨F[k].1.toArray⟩) := by rw [HB.out.cell]; simpa using hen.1
              have hks := HSH.out _ (List.getElem_mem hlt)
              go_wp2_with fail
              refine (Clone_any F[k].1 _ hks).mono ?_
              rintro e w2 ⟨rfl, b2⟩
              have hbx2 := hbx.trans (b2.mono hbx.size)
              have HB2 := Lib.hid (HB.out.next b2)
              have d1 : w2.cell? ⟨g, k * 2, none⟩ = some (.string ⟨F[k].1.toArray⟩) := by rw [HB2.out.cell]; simpa using hen.1
              have d2 : w2.frozen? ⟨g, k * 2, none⟩ = false := HB2.out.frozen _
              have HS : Hid (Blk (w2.setCell ⟨g, k * 2, none⟩ (.string ⟨F[k].1.toArray⟩)) g 90 (entsV F).toArray) := by
                have h1 := HB2.out.set (k * 2) (.string ⟨F[k].1.toArray⟩)
                have h2 : (entsV F).toArray.setIfInBounds (k * 2) (.string ⟨F[k].1.toArray⟩) = (entsV F).toArray := by
                  apply Array.ext_getElem?
                  intro j
                  rw [Array.getElem?_setIfInBounds]
                  split
                  · rename_i e; subst e
                    split
                    · simpa using hen.1.symm
                    · rename_i h; rw [Array.getElem?_eq_none (by simpa using h)]
                  · rfl
                rw [h2] at h1; exact h1
              have hb3 : Below w.heap.size w (w2.setCell ⟨g, k * 2, none⟩ (.string ⟨F[k].1.toArray⟩)) := hbx2.setCell hBg _
              clear c1 hen
              go_wp2
              go_roundw
              case rel => exact ⟨k + 1, by omega, by go_num, hb3, HS.out⟩
              case measure => simp [intOf]; omega
            · obtain rfl : k = F.length := by omega
              go_wp2
              go_ret
              exact ⟨g, rfl, hBg, HB.out, hbx⟩
end Go.Proofs.YtobepdmpacdakaaGreat

/- strings.Cut at one slash. -/
namespace Go.Proofs.YtobepdmpacdakaaGreat
open Go.RowKit

theorem cut_cases (l : List UInt8) : (Lib.indexByte l 47 = -1 ∧ 47 ∉ l) ∨ ∃ x r, l = x ++ 47 :: r ∧ 47 ∉ x ∧ Lib.indexByte l 47 = (x.length : Int) := by
  induction l with
  | nil => left; exact ⟨rfl, by simp⟩
  | cons c l ih =>
    by_cases hc : c = 47
    · subst hc; right; exact ⟨[], l, rfl, by simp, by simp [Lib.indexByte]⟩
    · have hb : (c == 47) = false := by simpa using hc
      rcases ih with ⟨h1, h2⟩ | ⟨x, r, rfl, hx, h⟩
      · left
        refine ⟨by simp [Lib.indexByte, hb, h1], ?_⟩
        simp only [List.mem_cons, not_or]
        exact ⟨fun e => hc e.symm, h2⟩
      · right
        refine ⟨c :: x, r, rfl, ?_, ?_⟩
        · simp only [List.mem_cons, not_or]
          exact ⟨fun e => hc e.symm, hx⟩
        · have hne : (Lib.indexByte (x ++ 47 :: r) 47 == -1) = false := by rw [h, beq_eq_false_iff_ne]; omega
          simp only [Lib.indexByte, hb, Bool.false_eq_true, if_false, hne, h]
          simp

theorem lcut_none (l : List UInt8) (w : World) (h : Lib.indexByte l 47 = -1) :
    Calls Tryz.prog 100 #[.string ⟨l.toArray⟩, .string ⟨#[47]⟩] w fun e w' => e = .returned (.tuple #[.string ⟨l.toArray⟩, .string ⟨#[]⟩, .bool false]) ∧ w' = w := by
  go_enter Tryz.func100, Tryz.ntmps100
  go_wp2_with fail
  refine (Tryz.stringslite_Index_one ⟨l.toArray⟩ 47 _).mono ?_
  rintro e w' ⟨rfl, rfl⟩
  rw [show Lib.indexByte (ByteArray.mk l.toArray).data.toList 47 = -1 from h]
  go_wp2
  go_ret3
  exact ⟨rfl, rfl⟩

theorem lcut_some (x r : List UInt8) (w : World) (hl : x.length + r.length ≤ 1000000000) (h : Lib.indexByte (x ++ 47 :: r) 47 = (x.length : Int)) :
    Calls Tryz.prog 100 #[.string ⟨(x ++ 47 :: r).toArray⟩, .string ⟨#[47]⟩] w fun e w' => e = .returned (.tuple #[.string ⟨x.toArray⟩, .string ⟨r.toArray⟩, .bool true]) ∧ ∃ n, w' = w.drewN n := by
  have c1 : (0 : Int) ≤ (x.length : Int) := by omega
  have c2 : (x.length : Int) ≤ (((ByteArray.mk (x ++ 47 :: r).toArray).size : Nat) : Int) := by simp [ByteArray.size]; omega
  have c3 : (0 : Int) ≤ (x.length : Int) + 1 := by omega
  have c4 : (x.length : Int) + 1 ≤ (((ByteArray.mk (x ++ 47 :: r).toArray).size : Nat) : Int) := by simp [ByteArray.size]; omega
  have hlim : (((ByteArray.mk (x ++ 47 :: r).toArray).size : Nat) : Int) ≤ 2000000000 := by simp [ByteArray.size]; omega
  have e1 : (ByteArray.mk (x ++ 47 :: r).toArray).extract 0 x.length = ⟨x.toArray⟩ := by
    rw [Lib.extract_eq]; simp
  have e2 : (ByteArray.mk (x ++ 47 :: r).toArray).extract (x.length + 1) (ByteArray.mk (x ++ 47 :: r).toArray).size = ⟨r.toArray⟩ := by
    have hd : List.drop (x.length + 1) (x ++ 47 :: r) = r := by
      rw [show x ++ 47 :: r = (x ++ [47]) ++ r from by simp, show x.length + 1 = (x ++ [47]).length from by simp, List.drop_left]
    rw [Lib.extract_eq]
    show ByteArray.mk (List.take ((x ++ 47 :: r).toArray.size - (x.length + 1)) (List.drop (x.length + 1) (x ++ 47 :: r).toArray.toList)).toArray = _
    rw [List.toList_toArray, hd, List.size_toArray, List.length_append, List.length_cons, List.take_of_length_le (by omega)]
  have E1 := Lib.hid e1
  have E2 := Lib.hid e2
  clear e1 e2
  generalize hs : ByteArray.mk (x ++ 47 :: r).toArray = s at *
  go_enter Tryz.func100, Tryz.ntmps100
  go_wp2_with fail
  refine (Tryz.stringslite_Index_one s 47 _).mono ?_
  rintro e w' ⟨rfl, rfl⟩
  rw [show Lib.indexByte s.data.toList 47 = (x.length : Int) from by rw [← hs]; exact h]
  go_wp2
  go_quiet (fail)
  go_wp2
  go_ret3
  refine ⟨?_, _, rfl⟩
  show Ending.returned (Value.tuple #[.string (s.extract 0 x.length), .string (s.extract (x.length + 1) s.size), .bool true]) = _
  rw [E1.out, E2.out]


/-- What lies ahead of the first slash, and what behind it; all of it where there is none. -/
def CutPost (l : List UInt8) (w : World) (e : Ending) (w' : World) : Prop :=
  (∃ n, w' = w.drewN n) ∧ ((e = .returned (.tuple #[.string ⟨l.toArray⟩, .string ⟨#[]⟩, .bool false]) ∧ 47 ∉ l) ∨
    ∃ x r, l = x ++ 47 :: r ∧ 47 ∉ x ∧ e = .returned (.tuple #[.string ⟨x.toArray⟩, .string ⟨r.toArray⟩, .bool true]))
theorem Cut_any (l : List UInt8) (w : World) (hl : l.length ≤ 1000000) :
    Calls Tryz.prog 83 #[.string ⟨l.toArray⟩, .string ⟨#[47]⟩] w (CutPost l w) := by
  rcases cut_cases l with ⟨h, hn⟩ | ⟨x, r, rfl, hx, h⟩
  · go_enter Tryz.func83, Tryz.ntmps83
    go_wp2_with fail; refine (lcut_none l _ h).mono ?_; rintro e w' ⟨rfl, rfl⟩
    go_wp2
    go_ret3
    exact ⟨⟨0, rfl⟩, .inl ⟨rfl, hn⟩⟩
  · go_enter Tryz.func83, Tryz.ntmps83
    go_wp2_with fail; refine (lcut_some x r _ (by simp at hl; omega) h).mono ?_; rintro e w' ⟨rfl, n, rfl⟩
    go_wp2
    go_ret3
    exact ⟨⟨n, rfl⟩, .inr ⟨x, r, rfl, hx, rfl⟩⟩
end Go.Proofs.YtobepdmpacdakaaGreat

/- The iterator over a path's names: what it hands out, to whatever loop body. -/
namespace Go.Proofs.YtobepdmpacdakaaGreat
open Go.RowKit Go.Shelf
attribute [local go_sem] Oper.semAt_some

/-- A text of no more than so many bytes. -/
abbrev Txt : Type := { x : List UInt8 // x.length ≤ 1000000 }
abbrev txtV (x : Txt) : Array Value := #[.string ⟨x.1.toArray⟩]

def strLen : Value → Nat
  | .string b => b.size
  | _ => 0
theorem atomB_map (x : List UInt8) (h : x.length ≤ 1000000) : ∃ ys : List Txt, ys.map (·.1) = atomB x := by
  by_cases hx : x = []
  · exact ⟨[], by simp [hx, atomB]⟩
  · exact ⟨[⟨x, h⟩], by simp [hx, atomB]⟩

set_option maxRecDepth 100000 in
set_option maxHeartbeats 2000000 in
theorem namesOf1_in (l B : Nat) (p : List UInt8) (hp : p.length ≤ 1000000) (J Jx : List Txt → World → Prop)
    (hJd : ∀ s (A : World) (q : Nat), J s A → J s (A.drewN q))
    (hY : ∀ pre x W, J pre W → pre.length < p.length + 1 → YieldAt Fence.wide (3 - 1 - 1) Tryz.prog l (txtV x) W fun e W' =>
      (e = .returned (.bool true) ∧ J (pre ++ [x]) W' ∧ True) ∨ (e = .returned (.bool false) ∧ Jx (pre ++ [x]) W'))
    (W : World) (hc : W.cell? ⟨B, 0, none⟩ = some (.string ⟨p.toArray⟩)) (h0 : J [] W) :
    CallsIn Fence.wide (3 - 1) Tryz.prog 82 #[.func (.yield l) #[] #[], .pointer (some ⟨B, 0, none⟩)] W fun e W' => (∃ v, e = .returned v) ∧
      ((∃ ys : List Txt, ys.map (·.1) = namesB p ∧ J ys W') ∨ (∃ pre : List Txt, pre.map (·.1) <+: namesB p ∧ Jx pre W')) := by
  refine callsIn_of_wp Tryz.func82 rfl trivial ?_ rfl
  simp only [Tryz.ntmps82, List.size_toArray, List.length_cons, List.length_nil, Nat.reduceAdd, Nat.reduceSub, Array.replicate_succ, Array.replicate_zero, List.push_toArray, List.append_toArray, List.nil_append, List.cons_append]
  gi_wp2
  gi_loopw [3] (fun s3 wr => ∃ (pre : List Txt) (r : List UInt8), s3 = .string ⟨r.toArray⟩ ∧ pre.length + r.length ≤ p.length ∧ Aside (namesB p = pre.map (·.1) ++ namesB r) ∧ J pre wr) (fun s3 _ => strLen s3)
  case atStart => exact ⟨[], p, rfl, by simp, rfl, h0⟩
  case round =>
    obtain ⟨pre, r, rfl, hlen, HN, hJ⟩ := hrel
    by_cases hr : r = []
    · subst hr
      have HN' : Hid (pre.map (·.1) = namesB p) := by (show _ = _); rw [HN.out, namesB_nil, List.append_nil]
      gi_wp2
      go_end0
      exact ⟨⟨_, rfl⟩, .inl ⟨pre, HN'.out, hJ⟩⟩
    · have hr0 : r.isEmpty = false := by simpa using hr
      gi_wp2_with fail
      refine ⟨trivial, ?_⟩
      gi_at_call 83
      refine (callsIn_wide.2 (Cut_any r _ (by omega))).mono ?_
      rintro e w' ⟨⟨q, rfl⟩, ⟨rfl, hn⟩ | ⟨x, t, rfl, hx, rfl⟩⟩
      · have hJ2 := hJd _ _ q hJ
        have HN2 := Lib.hid (HN.out.trans (by rw [namesB_none r hn, atomB_cons hr]))
        obtain ⟨fn, tmps, assign, body, hy0, hR⟩ := hY pre ⟨r, by omega⟩ _ hJ2 (by omega)
        have hy : (Instr.yield l #[.string ⟨r.toArray⟩]).run Tryz.prog (wr.drewN q) = .ok (.round l fn tmps assign body) (wr.drewN q) := hy0
        clear hy0
        gi_wp2
        refine hR.mono ?_
        rintro e W3 (⟨rfl, hJ3, hk3⟩ | ⟨rfl, hJx3⟩)
        · gi_wp2
          go_roundw
          case rel => exact ⟨pre ++ [⟨r, by omega⟩], [], rfl, by (have : 0 < r.length := List.length_pos_iff.2 hr); simp; omega, by (show _ = _); rw [HN2.out]; simp [namesB_nil], hJ3⟩
          case measure => simp [strLen, ByteArray.size]; exact List.length_pos_iff.2 hr
        · gi_wp2
          refine bodyPost_ret (results_none rfl _ _ _) rfl ?_
          exact ⟨⟨_, rfl⟩, .inr ⟨pre ++ [⟨r, by omega⟩], by rw [HN2.out]; simp, hJx3⟩⟩
      · have hJ2 := hJd _ _ q hJ
        simp only [List.length_append, List.length_cons] at hlen
        by_cases hxe : x = []
        · subst hxe
          have HN2 := Lib.hid (HN.out.trans (by rw [namesB_found _ _ hx, atomB_nil, List.nil_append]))
          gi_wp2
          refine ⟨fun _ h => (by cases h), ?_⟩
          gi_wp2
          go_roundw
          case rel => exact ⟨pre, t, rfl, by omega, HN2.out, hJ2⟩
          case measure => simp [strLen, ByteArray.size]
        · obtain ⟨c, x, rfl⟩ : ∃ c y, x = c :: y := by cases x with | nil => exact absurd rfl hxe | cons c y => exact ⟨c, y, rfl⟩
          have HN2 := Lib.hid (HN.out.trans (by rw [namesB_found _ _ hx, atomB_cons hxe]))
          obtain ⟨fn, tmps, assign, body, hy0, hR⟩ := hY pre ⟨c :: x, by omega⟩ _ hJ2 (by omega)
          have hy : (Instr.yield l #[.string ⟨(c :: x).toArray⟩]).run Tryz.prog (wr.drewN q) = .ok (.round l fn tmps assign body) (wr.drewN q) := hy0
          clear hy0
          gi_wp2
          refine hR.mono ?_
          rintro e W3 (⟨rfl, hJ3, hk3⟩ | ⟨rfl, hJx3⟩)
          · gi_wp2
            go_roundw
            case rel => exact ⟨pre ++ [⟨c :: x, by omega⟩], t, rfl, by simp; omega, by (show _ = _); rw [HN2.out]; simp, hJ3⟩
            case measure => simp [strLen, ByteArray.size]; omega
          · gi_wp2
            refine bodyPost_ret (results_none rfl _ _ _) rfl ?_
            exact ⟨⟨_, rfl⟩, .inr ⟨pre ++ [⟨c :: x, by omega⟩], by rw [HN2.out]; exact ⟨namesB t, by simp⟩, hJx3⟩⟩
end Go.Proofs.YtobepdmpacdakaaGreat

/- Walks: namesOf, absolute, Long, Base. -/
namespace Go.Proofs.YtobepdmpacdakaaGreat
open Go.RowKit Go.Shelf
attribute [local go_sem] Oper.semAt_some

set_option maxHeartbeats 1000000 in
theorem namesOf_in (p : List UInt8) (w : World) :
    CallsIn Fence.wide (3 - 1) Tryz.prog 56 #[.string ⟨p.toArray⟩] w fun e w' => e = .returned (.func (.func 82) #[] #[.pointer (some ⟨w.heap.size, 0, none⟩)]) ∧ w' = w.alloc (.cells #[.string ⟨p.toArray⟩] 9) := by
  refine callsIn_of_wp Tryz.func56 rfl trivial ?_ rfl
  simp only [Tryz.ntmps56, List.size_toArray, List.length_cons, List.length_nil, Nat.reduceAdd, Nat.reduceSub, Array.replicate_succ, Array.replicate_zero, List.push_toArray, List.append_toArray, List.nil_append, List.cons_append]
  gi_wp2
  go_ret
  exact ⟨rfl, rfl⟩

theorem names_stops (B : Nat) (p : List UInt8) (hp : p.length ≤ 1000000) (w : World) (hB : B < w.heap.size) (hc : w.cell? ⟨B, 0, none⟩ = some (.string ⟨p.toArray⟩)) :
    SeqStopsK Fence.wide (3 - 1) Tryz.prog 82 #[.pointer (some ⟨B, 0, none⟩)] txtV (fun _ _ => True) (fun ys => ys.map (·.1) = namesB p) (fun pre => pre.map (·.1) <+: namesB p) (p.length + 1) w := fun l J Jx W hW hJ _ hY h0 =>
  namesOf1_in l B p hp J Jx
    (fun s A q h => hJ s A (A.drewN q) none h ⟨rfl, rfl, rfl, Nat.le_refl _, fun _ _ _ => rfl⟩ (fun r e => by cases e)) hY W ((hW.cell (p := ⟨B, 0, none⟩) hB).trans hc) h0

theorem absB_prefix (l : List UInt8) : Lib.hasPrefix l [47] = absB l := by
  cases l with
  | nil => rfl
  | cons c r => simp [Lib.hasPrefix, absB, List.isPrefixOf, eq_comm, BEq.comm]
theorem absolute_any (p : List UInt8) (w : World) : Calls Tryz.prog 55 #[.string ⟨p.toArray⟩] w fun e w' => e = .returned (.bool (absB p)) ∧ w = w' := by
  go_enter Tryz.func55, Tryz.ntmps55
  go_wp2_with fail; refine (Tryz.strings_HasPrefix ⟨p.toArray⟩ ⟨#[47]⟩ _).mono ?_; rintro e w' ⟨rfl, rfl⟩
  go_wp2
  go_ret
  exact ⟨ret_bool (absB_prefix p), rfl⟩

set_option maxRecDepth 100000 in
set_option maxHeartbeats 2000000 in
theorem Long_any (p : List UInt8) (hp : p.length ≤ 1000000) (w : World) :
    Calls Tryz.prog 77 #[.string ⟨p.toArray⟩] w fun e w' => e = .returned (.bool (longB p)) ∧ Below w.heap.size w w' := by
  refine (callsIn_wide (n := 3)).1 ?_
  (refine callsIn_of_wp_marks Tryz.func77 rfl trivial ?_ rfl; simp only [Tryz.ntmps77, List.size_toArray, List.length_cons, List.length_nil, Nat.reduceAdd, Nat.reduceSub, Array.replicate_succ, Array.replicate_zero, List.push_toArray, List.append_toArray, List.nil_append, List.cons_append])
  by_cases h4 : 4095 < p.length
  · have hl : longB p = true := by simp [longB, h4]
    have hc := (Blk.new w 4 #[.bool true]).cell 0
    simp at hc
    gi_wp2
    refine ⟨.bool true, ?_, by rw [hl], (Below.refl _ w).alloc (Nat.le_refl _) _⟩
    simp [results, Tryz.f77, go_sem, hc]
  · gi_wp2_with fail
    refine ⟨trivial, ?_⟩
    gi_at_call 56
    refine (namesOf_in p _).mono ?_
    rintro e w' ⟨rfl, rfl⟩
    gi_wp2
    have b0 := Blk.new w 4 #[.bool false]
    have b1 := Blk.new (w.alloc (.cells #[.bool false] 4)) 9 #[.string ⟨p.toArray⟩]
    rw [World.size_alloc] at b1
    have hB0 : Below w.heap.size w ((w.alloc (.cells #[.bool false] 4)).alloc (.cells #[.string ⟨p.toArray⟩] 9)) := ((Below.refl _ w).alloc (Nat.le_refl _) _).alloc (by simp) _
    refine wpIn_rangeFunc_ownG rfl (by omega) (gf := 82) (lb := #[.pointer (some ⟨w.heap.size + 1, 0, none⟩)]) rfl trivial (enters_of Tryz.func82 (by kernel_rfl) rfl)
      (names_stops (w.heap.size + 1) p hp _ (by simp) (b1.cell 0)) (fun _ _ => trivial) (fun _ _ _ _ _ _ _ _ => trivial) (Below.refl _ _) (fun _ => rfl)
      (fun pre W => (Blk W w.heap.size 4 #[.bool false] ∧ ∀ x ∈ pre, (x : Txt).1.length ≤ 255) ∧ Below w.heap.size w W)
      (fun c pre W => (c = .ret ∧ Blk W w.heap.size 4 #[.bool true] ∧ ∃ x ∈ pre, 255 < (x : Txt).1.length) ∧ Below w.heap.size w W)
      (OwnFrom.and (Own.from (fun s A B row hs hg hr => ⟨blk_own (β := Unit) _ _ (fun _ => #[.bool false]) () A B row hs.1 hg hr, hs.2⟩) _) (ownFrom_below (Nat.le_refl _) (by simp; omega)))
      (fun c => OwnFrom.and (Own.from (fun s A B row hs hg hr => ⟨hs.1, blk_own (β := Unit) _ _ (fun _ => #[.bool true]) () A B row hs.2.1 hg hr, hs.2.2⟩) _) (ownFrom_below (Nat.le_refl _) (by simp; omega)))
      ⟨⟨b0.alloc _, by simp⟩, hB0⟩
      (fun x => { tmps := #[.string ⟨p.toArray⟩, undef, .pointer (some ⟨w.heap.size, 0, none⟩), .string ⟨x.1.toArray⟩, .string ⟨p.toArray⟩, .int .i64 p.length, .bool (decide (4095 < (p.length : Int))), .string ⟨p.toArray⟩,
        .func (.func 82) #[] #[.pointer (some ⟨w.heap.size + 1, 0, none⟩)], .string ⟨x.1.toArray⟩, undef, undef, undef], defers := [] }) ?assign ?body ?done ?stop
    case assign =>
      intro l x W K hK
      gi_wp2
      exact hK
    case body =>
      rintro l pre x W ⟨⟨hb, hs⟩, hB⟩ _
      have hc := hb.cell 0
      have hf := hb.frozen 0
      simp at hc
      by_cases h : 255 < x.1.length
      · gi_wp2
        exact ⟨(KeepsOthers.setCell _ _ _).from _, ⟨rfl, by simpa using hb.set 0 (.bool true), x, by simp, h⟩, hB.setCell (p := ⟨w.heap.size, 0, none⟩) (Nat.le_refl _) _⟩
      · gi_wp2
        exact ⟨KeepsFrom.refl _ _, trivial, ⟨hb, fun y hy => (List.mem_append.1 hy).elim (hs y) (fun e => by simp at e; subst e; omega)⟩, hB⟩
    case done =>
      rintro D ys W hD hys ⟨⟨hb, hs⟩, hB⟩ hK
      have hc := hb.cell 0
      have hf := hb.frozen 0
      simp at hc
      have hl : longB p = false := by
        simp only [longB, h4, decide_false, Bool.false_or, List.any_eq_false, decide_eq_true_eq]
        intro n hn
        rw [← hys] at hn
        obtain ⟨y, hy, rfl⟩ := List.mem_map.1 hn
        have := hs y hy
        omega
      gi_wp2
      have hK' := (KeepsOthers.setCell W ⟨w.heap.size, 0, none⟩ (.bool false)).same D _ hK rfl
      refine ⟨by simp, .inl ⟨_, _, rfl, run_takeDeferred hK', ?_⟩⟩
      have hc5 := cell_kept (World.cell?_setCell_same' W ⟨w.heap.size, 0, none⟩ (.bool false) (by rw [hc]; rfl)) (grownBy_putObj' _ D (.deferred none)) (fun r e => by cases e; exact ⟨_, hK', rfl⟩)
      refine ⟨.bool false, ?_, by rw [hl], (hB.setCell (p := ⟨w.heap.size, 0, none⟩) (Nat.le_refl _) _).trans (belowK_b (w := w) (Nat.le_refl _) _ D _ _ (by simp at hD; omega) hK' rfl rfl)⟩
      simp [results, Tryz.f77, go_sem, hc5]
    case stop =>
      rintro D c pre W hD hpre ⟨⟨rfl, hb, x, hx, h⟩, hB⟩ hK
      have hc := hb.cell 0
      simp at hc
      have hl : longB p = true := by
        simp only [longB, Bool.or_eq_true, List.any_eq_true, decide_eq_true_eq]
        exact .inr ⟨x.1, hpre.subset (List.mem_map.2 ⟨x, hx, rfl⟩), h⟩
      gi_wp2
      refine ⟨by simp, .inl ⟨_, _, rfl, run_takeDeferred hK, ?_⟩⟩
      have hc5 := cell_kept hc (grownBy_putObj' _ D (.deferred none)) (fun r e => by cases e; exact ⟨_, hK, rfl⟩)
      refine ⟨.bool true, ?_, by rw [hl], hB.trans (belowK_b (w := w) (Nat.le_refl _) W D _ _ (by simp at hD; omega) hK rfl rfl)⟩
      simp [results, Tryz.f77, go_sem, hc5]
end Go.Proofs.YtobepdmpacdakaaGreat

/- strings.Builder: a writing method's check, and WriteString. -/
namespace Go.Proofs.YtobepdmpacdakaaGreat
open Go.RowKit Go.Shelf

set_option maxHeartbeats 1000000 in
set_option maxRecDepth 100000 in
theorem copyCheck_used (b : Nat) (w : World) (h0 : w.cell? ⟨b, 0, none⟩ = some (.pointer (some ⟨b, 0, none⟩))) :
    Calls Tryz.prog 136 #[.pointer (some ⟨b, 0, none⟩)] w fun e w' => e = .returned (.tuple #[]) ∧ w' = w := by
  obtain ⟨j, hj, _⟩ := Option.map_eq_some_iff.1 (show (Tryz.prog.info? 153).map (·.size) = some 2 from by kernel_rfl)
  go_enter Tryz.func136, Tryz.ntmps136
  go_wp2
  rw [Lib.run_neq_ptr_same w _ Tryz.underlying151 hj]
  go_wp2
  go_end0
  exact ⟨rfl, rfl⟩

set_option maxHeartbeats 1000000 in
set_option maxRecDepth 100000 in
theorem copyCheck_fresh (b : Nat) (w : World) (h0 : w.cell? ⟨b, 0, none⟩ = some (.pointer none)) (hsh : w.shape? b = some (153, 2)) (hfz : w.frozen? ⟨b, 0, none⟩ = false) :
    Calls Tryz.prog 136 #[.pointer (some ⟨b, 0, none⟩)] w fun e w' => e = .returned (.tuple #[]) ∧ w' = w.setCell ⟨b, 0, none⟩ (.pointer (some ⟨b, 0, none⟩)) := by
  obtain ⟨j, hj, hjs⟩ := Option.map_eq_some_iff.1 (show (Tryz.prog.info? 153).map (·.size) = some 2 from by kernel_rfl)
  have hlies : liesAt Tryz.prog Tryz.prog.depth 153 (2 / Tryz.prog.cellsOf 153) 0 153 1 = true := by kernel_rfl
  go_enter Tryz.func136, Tryz.ntmps136
  go_wp2
  rw [Lib.run_to_unsafe w ⟨b, 0, none⟩ Tryz.underlying151 Tryz.underlying159 hj (by rw [hjs]; decide) hsh (Nat.zero_lt_succ 1)]
  simp only [Result.andThen]
  rw [Oper.upon_value]
  go_wp2
  rw [run_callFunc_extern Tryz.func137 (by kernel_rfl) (by kernel_rfl) (by kernel_rfl) (e := Extern.AbiNoEscape.same) (by kernel_rfl)]
  rw [Lib.run_noEscape]
  simp only [Result.andThen]
  rw [Oper.upon_value]
  go_wp2
  rw [Lib.run_from_unsafe w ⟨b, 0, none⟩ Tryz.underlying159 Tryz.underlying151 hj hsh hlies]
  simp only [Result.andThen]
  rw [Oper.upon_value]
  go_wp2
  go_end0
  exact ⟨rfl, rfl⟩

/-- A writing method's check: behind it the builder is used. -/
theorem copyCheck_any (B b : Nat) (bs : List Value) (w : World) (h : Lib.IsBuilder 153 5 B b bs w) :
    Calls Tryz.prog 136 #[.pointer (some ⟨b, 0, none⟩)] w fun e w' => e = .returned (.tuple #[]) ∧ (Lib.BuilderAt 153 5 B b (.pointer (some ⟨b, 0, none⟩)) bs w' ∧ Below B w w') := by
  rcases h with h | h
  · refine (copyCheck_fresh b w h.cell0 h.shape h.frozen0).mono ?_
    rintro e w' ⟨rfl, rfl⟩
    exact ⟨rfl, h.used _, (Below.refl B w).setCell (p := ⟨b, 0, none⟩) h.1 _⟩
  · refine (copyCheck_used b w h.cell0).mono ?_
    rintro e w' ⟨rfl, rfl⟩
    exact ⟨rfl, h, Below.refl B _⟩

theorem Tryz.infoByte : (Tryz.prog.info? 5).map (fun i => (i.zero, i.size, i.bytes)) = some (some (.int .u8 0), 1, 1) := by kernel_rfl

set_option maxHeartbeats 2000000 in
set_option maxRecDepth 100000 in
theorem WriteString_any (B b : Nat) (bs : List UInt8) (l : List UInt8) (w : World) (h : Lib.IsBuilder 153 5 B b (bytesV bs) w) (hlen : bs.length + l.length ≤ 1000000000) (hBw : B ≤ w.heap.size) :
    Calls Tryz.prog 134 #[.pointer (some ⟨b, 0, none⟩), .string ⟨l.toArray⟩] w fun e w' => e = .returned (.tuple #[.int .i64 l.length, .nilIface]) ∧ (Lib.IsBuilder 153 5 B b (bytesV (bs ++ l)) w' ∧ Below B w w') := by
  obtain ⟨i0, hi, hz0, hz1, hz2⟩ := info_parts Tryz.infoByte
  go_enter Tryz.func134, Tryz.ntmps134
  go_wp2_with fail
  refine (copyCheck_any B b _ _ h).mono ?_
  rintro e w1 ⟨rfl, h1, hb1⟩
  obtain ⟨hB, v, hbk, hown, hne⟩ := h1
  have c0 : w1.cell? ⟨b, 0, none⟩ = some (.pointer (some ⟨b, 0, none⟩)) := by rw [Lib.cell_of_heap hbk]; rfl
  have c1 : w1.cell? ⟨b, 1, none⟩ = some v := by rw [Lib.cell_of_heap hbk]; rfl
  go_wp2_with (at_builtin; refine Lib.wpList_append_own_string _ rfl _ _ 117 9 rfl B 5 i0 Tryz.underlying117 Tryz.underlying9 hi hz0 hz1 hz2 _ _ _ rfl hown ⟨l.toArray⟩ rfl ?c3 ?c4 ?c5 ?_)
  case c3 => simp [bytesV, ByteArray.size]; unfold maxLen; omega
  case c4 => simp [bytesV, ByteArray.size]; omega
  case c5 => have := hb1.size; omega
  intro v' w2 hown' hgrow _
  have hlt : b < w1.heap.size := by
    rcases Nat.lt_or_ge b w1.heap.size with h' | h'
    · exact h'
    · simp [Array.getElem?_eq_none h'] at hbk
  have hb2 : w2.heap[b]? = some (.cells #[.pointer (some ⟨b, 0, none⟩), v] 153 (0, 0)) := by
    rw [hgrow.block b hlt (fun e => hne e.symm)]
    exact hbk
  have d0 : w2.cell? ⟨b, 0, none⟩ = some (.pointer (some ⟨b, 0, none⟩)) := by rw [Lib.cell_of_heap hb2]; rfl
  have d1 : w2.cell? ⟨b, 1, none⟩ = some v := by rw [Lib.cell_of_heap hb2]; rfl
  have f1 : w2.frozen? ⟨b, 1, none⟩ = false := Lib.frozen_of_heap hb2 1
  obtain ⟨ao, n', cap, rfl⟩ : ∃ ao n' cap, v' = .slice ao n' cap := by
    rcases hown'.2 with ⟨hv, _⟩ | ⟨g, cap, cur, hv, _⟩
    · exact ⟨_, _, _, hv⟩
    · exact ⟨_, _, _, hv⟩
  go_wp2
  go_ret2
  refine ⟨by simp [ByteArray.size], .inr ?_, ?_⟩
  · exact Lib.BuilderAt.put (T := 153) (e := 5) hB hb2 (bs' := bytesV (bs ++ l)) (by simpa [bytesV, Lib.strCells, ByteArray.size] using hown') (by decide)
  · exact (hb1.grown hgrow (by have := hb1.size; omega) (fun k hk => (hown.lt k hk).1)).setCell (p := ⟨b, 1, none⟩) hB _

/-- A builder as 'var b strings.Builder' lays it. -/
theorem builder_new (w : World) : Lib.IsBuilder 153 5 w.heap.size w.heap.size (bytesV []) (w.alloc (.cells #[.pointer none, .slice none 0 0] 153)) := by
  refine .inl ⟨Nat.le_refl _, .slice none 0 0, World.alloc_heap_new w _, World.ownsRow_nil _ _ _ _, by simp [Value.ownBlock]⟩

theorem builder_String (B b : Nat) (l : List UInt8) (w : World) (h : Lib.IsBuilder 153 5 B b (bytesV l) w) (hBw : B ≤ w.heap.size) :
    Calls Tryz.prog 135 #[.pointer (some ⟨b, 0, none⟩)] w fun e w' => e = .returned (.string ⟨l.toArray⟩) ∧ Below B w w' := Tryz.Builder_String_any B b l w h hBw
end Go.Proofs.YtobepdmpacdakaaGreat

/- Walks: Put, Join. -/
namespace Go.Proofs.YtobepdmpacdakaaGreat
open Go.RowKit

abbrev pathA (a : Bool) (v : Value) (s : Bool) : Array Value := #[.bool a, v, .bool s]
theorem str_cell {w : World} {b off : Nat} {l : List (List UInt8)} (hc : ∀ i (h : i < l.length), w.cell? ⟨b, off + i, none⟩ = some (.string ⟨l[i].toArray⟩)) {k : Nat} (h : k < l.length) : w.cell? ⟨b, off + k, none⟩ = some (.string ⟨l[k].toArray⟩) := hc k h
theorem interB_next (ns : List (List UInt8)) (k : Nat) (h : k < ns.length) : interB (ns.take (k + 1)) = if k = 0 then ns[k] else interB (ns.take k) ++ 47 :: ns[k] := by
  rw [List.take_succ_eq_append_getElem h, interB_snoc]
  by_cases hk : k = 0
  · subst hk; simp
  · rw [if_neg hk, if_neg (by cases ns <;> cases k <;> simp_all)]
theorem putB_inter (a s : Bool) (ns : List (List UInt8)) : (interB ns).length ≤ (putB a ns s).length := by simp [putB]; omega
theorem putB_no (a s : Bool) (ns : List (List UInt8)) (h : s = false ∨ ns = []) : putB a ns s = (if a then [47] else []) ++ interB ns := by
  rcases h with rfl | rfl <;> simp [putB]
theorem putB_yes (a : Bool) (ns : List (List UInt8)) (h : 0 < ns.length) : putB a ns true = (if a then [47] else []) ++ interB ns ++ [47] := by
  have : ns.isEmpty = false := by rw [List.isEmpty_eq_false_iff]; rintro rfl; simp at h
  simp [putB, this]

set_option maxRecDepth 100000 in
set_option maxHeartbeats 4000000 in
theorem Put_true (s : Bool) (ns : List (List UInt8)) (v : Value) (w : World) (hv : Strs w v ns) (hl : ns.length ≤ 1000000) (hj : (interB ns).length ≤ 1000000) :
    Calls Tryz.prog 133 #[.agg (pathA true v s)] w fun e w' => e = .returned (.string ⟨(putB true ns s).toArray⟩) ∧ Below w.heap.size w w' := by
  obtain ⟨ad, ca, rfl, hm, HA0⟩ := hv
  have HA := Lib.hid HA0
  have HJ := Lib.hid hj
  clear HA0 hm hj
  have b0 := Blk.new w 62 (pathA true (.slice ad ns.length ca) s)
  have bb := builder_new (w.alloc (.cells (pathA true (.slice ad ns.length ca) s) 62))
  rw [World.size_alloc] at bb
  have hB0 : Below (w.heap.size + 1) (w.alloc (.cells (pathA true (.slice ad ns.length ca) s) 62)) ((w.alloc (.cells (pathA true (.slice ad ns.length ca) s) 62)).alloc (.cells #[.pointer none, .slice none 0 0] 153)) := (Below.refl _ _).alloc (by simp) _
  have hW0 : Below w.heap.size w (w.alloc (.cells (pathA true (.slice ad ns.length ca) s) 62)) := (Below.refl _ w).alloc (Nat.le_refl _) _
  have hs1 : (w.alloc (.cells (pathA true (.slice ad ns.length ca) s) 62)).heap.size = w.heap.size + 1 := by simp
  go_enter Tryz.func133, Tryz.ntmps133
  go_wp2_with fail
  refine (WriteString_any (w.heap.size + 1) (w.heap.size + 1) [] [47] _ bb (by decide) (by simp)).mono ?_
  rintro e w1 ⟨rfl, hb, h1⟩
  replace h1 := hB0.trans h1
  have bz : w1.cell? ⟨w.heap.size, 1, none⟩ = some (.slice ad ns.length ca) := (b0.below h1 (by simp)).cell 1
  go_wp2
  go_loopw [12] (fun i wr => ∃ k : Nat, k ≤ ns.length ∧ i = .int .i64 k ∧ Lib.IsBuilder 153 5 (w.heap.size + 1) (w.heap.size + 1) (bytesV ([47] ++ interB (ns.take k))) wr ∧ Below (w.heap.size + 1) (w.alloc (.cells (pathA true (.slice ad ns.length ca) s) 62)) wr) (fun i _ => ns.length - (intOf i).toNat)
  case atStart => exact ⟨0, Nat.zero_le _, rfl, by simpa [interB] using hb, h1⟩
  case round =>
    obtain ⟨k, hk, rfl, hbl, hBl⟩ := hrel
    have hsz := hBl.size
    rw [World.size_alloc] at hsz
    have hlen := Nat.le_trans (interB_take ns k) HJ.out
    by_cases hlt : k < ns.length
    · obtain ⟨ba, oa, rfl, hba, hca⟩ := HA.out (by omega)
      have c1 : wr.cell? ⟨ba, oa + k, none⟩ = some (.string ⟨ns[k].toArray⟩) := (hBl.cell (p := ⟨ba, oa + k, none⟩) (by simp; omega)).trans ((hW0.cell (p := ⟨ba, oa + k, none⟩) hba).trans (hca k hlt))
      clear hca
      have HN := Lib.hid (interB_next ns k hlt)
      have hlen2 := Nat.le_trans (interB_take ns (k + 1)) HJ.out
      by_cases h0 : 0 < k
      · have hkz : Hid (¬ k = 0) := by (show ¬ _); omega
        have hN2 := Lib.hid (HN.out.trans (if_neg hkz.out))
        rw [hN2.out, List.length_append, List.length_cons] at hlen2
        go_wp2_with fail
        refine (WriteString_any (w.heap.size + 1) (w.heap.size + 1) _ [47] _ hbl (by simp; omega) (by omega)).mono ?_
        rintro e w2 ⟨rfl, hb2, hB2⟩
        have c2 : w2.cell? ⟨ba, oa + k, none⟩ = some (.string ⟨ns[k].toArray⟩) := (hB2.cell (p := ⟨ba, oa + k, none⟩) (by simp; omega)).trans c1
        have hs2 := hB2.size
        clear c1
        go_wp2_with fail
        refine (WriteString_any (w.heap.size + 1) (w.heap.size + 1) _ ns[k] _ hb2 (by simp; omega) (by omega)).mono ?_
        rintro e w3 ⟨rfl, hb3, hB3⟩
        go_wp2
        go_roundw
        case rel => exact ⟨k + 1, by omega, by go_num, by rw [hN2.out]; simpa using hb3, (hBl.trans hB2).trans hB3⟩
        case measure => simp [intOf]; omega
      · obtain rfl : k = 0 := by omega
        have hN2 := Lib.hid (HN.out.trans (if_pos rfl))
        have c0 : wr.cell? ⟨ba, oa, none⟩ = some (.string ⟨ns[0].toArray⟩) := c1
        clear c1
        rw [hN2.out] at hlen2
        go_wp2_with fail
        refine (WriteString_any (w.heap.size + 1) (w.heap.size + 1) _ ns[0] _ hbl (by simp [interB]; omega) (by omega)).mono ?_
        rintro e w3 ⟨rfl, hb3, hB3⟩
        go_wp2
        go_roundw
        case rel => exact ⟨1, by omega, by go_num, by rw [hN2.out]; simpa [interB] using hb3, hBl.trans hB3⟩
        case measure => simp [intOf]; omega
    · obtain rfl : k = ns.length := by omega
      rw [List.take_length] at hbl hlen
      have bx := b0.below hBl (by simp)
      have x1 := bx.cell 1
      have x2 := bx.cell 2
      simp at x1 x2
      cases s
      · have HP := Lib.hid (putB_no true false ns (.inl rfl))
        go_wp2_with fail
        refine (builder_String (w.heap.size + 1) (w.heap.size + 1) _ _ hbl (by omega)).mono ?_
        rintro e w3 ⟨rfl, hB3⟩
        go_wp2
        go_ret
        exact ⟨ret_str (by rw [HP.out]; rfl), hW0.trans ((hBl.trans hB3).mono (by simp))⟩
      · by_cases hn : 0 < ns.length
        · have HP := Lib.hid (putB_yes true ns hn)
          go_wp2_with fail
          refine (WriteString_any (w.heap.size + 1) (w.heap.size + 1) _ [47] _ hbl (by simp; omega) (by omega)).mono ?_
          rintro e w2 ⟨rfl, hb2, hB2⟩
          have hs2 := hB2.size
          go_wp2_with fail
          refine (builder_String (w.heap.size + 1) (w.heap.size + 1) _ _ hb2 (by omega)).mono ?_
          rintro e w3 ⟨rfl, hB3⟩
          go_wp2
          go_ret
          exact ⟨ret_str (by rw [HP.out]; rfl), hW0.trans (((hBl.trans hB2).trans hB3).mono (by simp))⟩
        · have HP := Lib.hid (putB_no true true ns (.inr (List.eq_nil_of_length_eq_zero (by omega))))
          go_wp2_with fail
          refine (builder_String (w.heap.size + 1) (w.heap.size + 1) _ _ hbl (by omega)).mono ?_
          rintro e w3 ⟨rfl, hB3⟩
          go_wp2
          go_ret
          exact ⟨ret_str (by rw [HP.out]; rfl), hW0.trans ((hBl.trans hB3).mono (by simp))⟩

set_option maxRecDepth 100000 in
set_option maxHeartbeats 4000000 in
theorem Put_false (s : Bool) (ns : List (List UInt8)) (v : Value) (w : World) (hv : Strs w v ns) (hl : ns.length ≤ 1000000) (hj : (interB ns).length ≤ 1000000) :
    Calls Tryz.prog 133 #[.agg (pathA false v s)] w fun e w' => e = .returned (.string ⟨(putB false ns s).toArray⟩) ∧ Below w.heap.size w w' := by
  obtain ⟨ad, ca, rfl, hm, HA0⟩ := hv
  have HA := Lib.hid HA0
  have HJ := Lib.hid hj
  clear HA0 hm hj
  have b0 := Blk.new w 62 (pathA false (.slice ad ns.length ca) s)
  have bb := builder_new (w.alloc (.cells (pathA false (.slice ad ns.length ca) s) 62))
  rw [World.size_alloc] at bb
  have hB0 : Below (w.heap.size + 1) (w.alloc (.cells (pathA false (.slice ad ns.length ca) s) 62)) ((w.alloc (.cells (pathA false (.slice ad ns.length ca) s) 62)).alloc (.cells #[.pointer none, .slice none 0 0] 153)) := (Below.refl _ _).alloc (by simp) _
  have hW0 : Below w.heap.size w (w.alloc (.cells (pathA false (.slice ad ns.length ca) s) 62)) := (Below.refl _ w).alloc (Nat.le_refl _) _
  have hs1 : (w.alloc (.cells (pathA false (.slice ad ns.length ca) s) 62)).heap.size = w.heap.size + 1 := by simp
  go_enter Tryz.func133, Tryz.ntmps133
  have h1 := hB0
  have hb := bb
  go_wp2
  go_loopw [12] (fun i wr => ∃ k : Nat, k ≤ ns.length ∧ i = .int .i64 k ∧ Lib.IsBuilder 153 5 (w.heap.size + 1) (w.heap.size + 1) (bytesV ([] ++ interB (ns.take k))) wr ∧ Below (w.heap.size + 1) (w.alloc (.cells (pathA false (.slice ad ns.length ca) s) 62)) wr) (fun i _ => ns.length - (intOf i).toNat)
  case atStart => exact ⟨0, Nat.zero_le _, rfl, by simpa [interB] using hb, h1⟩
  case round =>
    obtain ⟨k, hk, rfl, hbl, hBl⟩ := hrel
    have hsz := hBl.size
    rw [World.size_alloc] at hsz
    have hlen := Nat.le_trans (interB_take ns k) HJ.out
    by_cases hlt : k < ns.length
    · obtain ⟨ba, oa, rfl, hba, hca⟩ := HA.out (by omega)
      have c1 : wr.cell? ⟨ba, oa + k, none⟩ = some (.string ⟨ns[k].toArray⟩) := (hBl.cell (p := ⟨ba, oa + k, none⟩) (by simp; omega)).trans ((hW0.cell (p := ⟨ba, oa + k, none⟩) hba).trans (hca k hlt))
      clear hca
      have HN := Lib.hid (interB_next ns k hlt)
      have hlen2 := Nat.le_trans (interB_take ns (k + 1)) HJ.out
      by_cases h0 : 0 < k
      · have hkz : Hid (¬ k = 0) := by (show ¬ _); omega
        have hN2 := Lib.hid (HN.out.trans (if_neg hkz.out))
        rw [hN2.out, List.length_append, List.length_cons] at hlen2
        go_wp2_with fail
        refine (WriteString_any (w.heap.size + 1) (w.heap.size + 1) _ [47] _ hbl (by simp; omega) (by omega)).mono ?_
        rintro e w2 ⟨rfl, hb2, hB2⟩
        have c2 : w2.cell? ⟨ba, oa + k, none⟩ = some (.string ⟨ns[k].toArray⟩) := (hB2.cell (p := ⟨ba, oa + k, none⟩) (by simp; omega)).trans c1
        have hs2 := hB2.size
        clear c1
        go_wp2_with fail
        refine (WriteString_any (w.heap.size + 1) (w.heap.size + 1) _ ns[k] _ hb2 (by simp; omega) (by omega)).mono ?_
        rintro e w3 ⟨rfl, hb3, hB3⟩
        go_wp2
        go_roundw
        case rel => exact ⟨k + 1, by omega, by go_num, by rw [hN2.out]; simpa using hb3, (hBl.trans hB2).trans hB3⟩
        case measure => simp [intOf]; omega
      · obtain rfl : k = 0 := by omega
        have hN2 := Lib.hid (HN.out.trans (if_pos rfl))
        have c0 : wr.cell? ⟨ba, oa, none⟩ = some (.string ⟨ns[0].toArray⟩) := c1
        clear c1
        rw [hN2.out] at hlen2
        go_wp2_with fail
        refine (WriteString_any (w.heap.size + 1) (w.heap.size + 1) _ ns[0] _ hbl (by simp [interB]; omega) (by omega)).mono ?_
        rintro e w3 ⟨rfl, hb3, hB3⟩
        go_wp2
        go_roundw
        case rel => exact ⟨1, by omega, by go_num, by rw [hN2.out]; simpa [interB] using hb3, hBl.trans hB3⟩
        case measure => simp [intOf]; omega
    · obtain rfl : k = ns.length := by omega
      rw [List.take_length] at hbl hlen
      have bx := b0.below hBl (by simp)
      have x1 := bx.cell 1
      have x2 := bx.cell 2
      simp at x1 x2
      cases s
      · have HP := Lib.hid (putB_no false false ns (.inl rfl))
        go_wp2_with fail
        refine (builder_String (w.heap.size + 1) (w.heap.size + 1) _ _ hbl (by omega)).mono ?_
        rintro e w3 ⟨rfl, hB3⟩
        go_wp2
        go_ret
        exact ⟨ret_str (by rw [HP.out]; rfl), hW0.trans ((hBl.trans hB3).mono (by simp))⟩
      · by_cases hn : 0 < ns.length
        · have HP := Lib.hid (putB_yes false ns hn)
          go_wp2_with fail
          refine (WriteString_any (w.heap.size + 1) (w.heap.size + 1) _ [47] _ hbl (by simp; omega) (by omega)).mono ?_
          rintro e w2 ⟨rfl, hb2, hB2⟩
          have hs2 := hB2.size
          go_wp2_with fail
          refine (builder_String (w.heap.size + 1) (w.heap.size + 1) _ _ hb2 (by omega)).mono ?_
          rintro e w3 ⟨rfl, hB3⟩
          go_wp2
          go_ret
          exact ⟨ret_str (by rw [HP.out]; rfl), hW0.trans (((hBl.trans hB2).trans hB3).mono (by simp))⟩
        · have HP := Lib.hid (putB_no false true ns (.inr (List.eq_nil_of_length_eq_zero (by omega))))
          go_wp2_with fail
          refine (builder_String (w.heap.size + 1) (w.heap.size + 1) _ _ hbl (by omega)).mono ?_
          rintro e w3 ⟨rfl, hB3⟩
          go_wp2
          go_ret
          exact ⟨ret_str (by rw [HP.out]; rfl), hW0.trans ((hBl.trans hB3).mono (by simp))⟩

theorem Put_any (a s : Bool) (ns : List (List UInt8)) (v : Value) (w : World) (hv : Strs w v ns) (hl : ns.length ≤ 1000000) (hj : (interB ns).length ≤ 1000000) :
    Calls Tryz.prog 133 #[.agg (pathA a v s)] w fun e w' => e = .returned (.string ⟨(putB a ns s).toArray⟩) ∧ Below w.heap.size w w' := by
  cases a
  · exact Put_false s ns v w hv hl hj
  · exact Put_true s ns v w hv hl hj

theorem Join_any (ns : List (List UInt8)) (v : Value) (w : World) (hv : Strs w v ns) (hl : ns.length ≤ 1000000) (hj : (interB ns).length ≤ 1000000) :
    Calls Tryz.prog 131 #[v] w fun e w' => e = .returned (.string ⟨(joinB ns).toArray⟩) ∧ Below w.heap.size w w' := by
  have hv2 := hv
  obtain ⟨ad, ca, rfl, hm, HA0⟩ := hv
  clear HA0
  go_enter Tryz.func131, Tryz.ntmps131
  go_wp2_with fail; refine (Put_any true false ns _ _ hv2 hl hj).mono ?_; rintro e w' ⟨rfl, hB⟩
  go_wp2
  go_ret
  exact ⟨ret_str (joinB_put ns), hB⟩
end Go.Proofs.YtobepdmpacdakaaGreat

/- Walks: the search for a name, by halves. -/
namespace Go.Proofs.YtobepdmpacdakaaGreat
open Go.RowKit

theorem hold_any (e : Ent) (n : List UInt8) (w : World) :
    Calls Tryz.prog 125 #[.agg (entC e), .string ⟨n.toArray⟩] w fun x w' => x = .returned (.int .i64 (Lib.compareBytes e.1 n)) ∧ Below w.heap.size w w' := by
  go_enter Tryz.func125, Tryz.ntmps125
  have hb : Below w.heap.size w (w.alloc (.cells (entC e) 90)) := (Below.refl _ w).alloc (Nat.le_refl _) _
  go_wp2_with fail; refine (Tryz.strings_Compare _ _ _).mono ?_; rintro e w' ⟨rfl, rfl⟩
  go_wp2
  go_ret
  exact ⟨rfl, hb⟩

set_option maxHeartbeats 2000000 in
theorem halves_any (l : List Ent) (n : List UInt8) (v : Value) (w : World) (hv : Ents w v l) (hs : sortP l) (hl : l.length ≤ 1000000) :
    Calls Tryz.prog 124 #[v, .string ⟨n.toArray⟩, .func (.func 125) #[] #[]] w fun e w' =>
      ∃ lo : Nat, e = .returned (.tuple #[.int .i64 lo, .bool (hasB l n)]) ∧ SrchP l n lo ∧ Below w.heap.size w w' := by
  obtain ⟨a, ca, rfl, hc, hm, HA0⟩ := hv
  unfold maxLen at hm
  have HA := Lib.hid HA0
  have HS := Lib.hid hs
  clear HA0 hs
  go_enter Tryz.func124, Tryz.ntmps124
  go_wp2
  go_loopg [9, 10] l.length (fun g s9 s10 wr => ∃ lo hi : Nat, s9 = .int .i64 lo ∧ s10 = .int .i64 hi ∧ lo ≤ hi ∧ hi ≤ l.length ∧ hi - lo ≤ g ∧ Below w.heap.size w wr ∧
    Aside ((∀ t (ht : t < l.length), t < lo → ltB l[t].1 n = true) ∧ (∀ t (ht : t < l.length), hi ≤ t → ltB l[t].1 n = false)))
  case atStart => exact ⟨0, l.length, rfl, rfl, Nat.zero_le _, Nat.le_refl _, by omega, Below.refl _ _, ⟨fun t ht h => by omega, fun t ht h => by omega⟩⟩
  case round =>
    obtain ⟨lo, hi, rfl, rfl, hlh, hin, hg, hbw, I⟩ := hrel
    by_cases hlt : lo < hi
    · obtain ⟨b, o, rfl, hb, hcl⟩ := HA.out (by omega)
      have hmid : (lo + hi) / 2 < l.length := by omega
      have c1 : wr.cell? ⟨b, o + (lo + hi) / 2 * 2, none⟩ = some (.string ⟨l[(lo + hi) / 2].1.toArray⟩) := (hbw.cell (p := ⟨b, o + (lo + hi) / 2 * 2, none⟩) hb).trans (hcl _ hmid).1
      have c2 : wr.cell? ⟨b, o + (lo + hi) / 2 * 2 + 1, none⟩ = some (.int .i64 l[(lo + hi) / 2].2) := (hbw.cell (p := ⟨b, o + (lo + hi) / 2 * 2 + 1, none⟩) hb).trans (hcl _ hmid).2
      clear hcl
      generalize hy : l[(lo + hi) / 2] = y at c1 c2
      have Y := Lib.hid hy
      clear hy
      have CM := Lib.hid (cmp_lt y.1 n)
      go_wp2_with fail
      refine (hold_any y n _).mono ?_
      rintro e w2 ⟨rfl, b2⟩
      replace hbw := hbw.trans (b2.mono hbw.size)
      cases hl1 : ltB y.1 n
      · have hcm : decide (Lib.compareBytes y.1 n < 0) = false := CM.out.trans hl1
        have I2 := Lib.hid (show (∀ t (ht : t < l.length), t < lo → ltB l[t].1 n = true) ∧ (∀ t (ht : t < l.length), (lo + hi) / 2 ≤ t → ltB l[t].1 n = false) from ⟨I.out.1, fun t ht h => by
          rw [Bool.eq_false_iff]; intro h2
          have := sort_upto HS.out ht h h2
          rw [Y.out, hl1] at this; cases this⟩)
        go_wp2
        go_roundg ((lo + hi) / 2 - lo)
        case measure => omega
        case rel => exact ⟨lo, (lo + hi) / 2, rfl, by rw [show ((lo : Int) + (hi : Int)) / 2 = (((lo + hi) / 2 : Nat) : Int) by omega], by omega, by omega, Nat.le_refl _, hbw, I2.out⟩
      · have hcm : decide (Lib.compareBytes y.1 n < 0) = true := CM.out.trans hl1
        have I2 := Lib.hid (show (∀ t (ht : t < l.length), t < (lo + hi) / 2 + 1 → ltB l[t].1 n = true) ∧ (∀ t (ht : t < l.length), hi ≤ t → ltB l[t].1 n = false) from ⟨fun t ht h => sort_upto HS.out hmid (by omega) (by rw [Y.out]; exact hl1), I.out.2⟩)
        go_wp2
        go_roundg (hi - ((lo + hi) / 2 + 1))
        case measure => omega
        case rel => exact ⟨(lo + hi) / 2 + 1, hi, by rw [show ((lo : Int) + (hi : Int)) / 2 + 1 = (((lo + hi) / 2 + 1 : Nat) : Int) by omega], rfl, by omega, hin, Nat.le_refl _, hbw, I2.out⟩
    · obtain rfl : hi = lo := by omega
      have SE := Lib.hid (srch_end HS.out hin I.out.1 I.out.2)
      by_cases hn : hi < l.length
      · obtain ⟨b, o, rfl, hb, hcl⟩ := HA.out (by omega)
        have c1 : wr.cell? ⟨b, o + hi * 2, none⟩ = some (.string ⟨l[hi].1.toArray⟩) := (hbw.cell (p := ⟨b, o + hi * 2, none⟩) hb).trans (hcl _ hn).1
        have c2 : wr.cell? ⟨b, o + hi * 2 + 1, none⟩ = some (.int .i64 l[hi].2) := (hbw.cell (p := ⟨b, o + hi * 2 + 1, none⟩) hb).trans (hcl _ hn).2
        clear hcl
        have SH : Hid (hasB l n = (l[hi].1 == n)) := by (show _ = _); rw [SE.out.2, dif_pos hn]
        generalize hy : l[hi] = y at c1 c2 SH
        clear hy
        have CM := Lib.hid (cmp_eq0 y.1 n)
        go_wp2_with fail
        refine (hold_any y n _).mono ?_
        rintro e w2 ⟨rfl, b2⟩
        replace hbw := hbw.trans (b2.mono hbw.size)
        go_wp2
        go_ret2
        exact ⟨hi, by rw [SH.out, ← CM.out]; rfl, SE.out.1, hbw⟩
      · have SH : Hid (hasB l n = false) := by (show _ = _); rw [SE.out.2, dif_neg hn]
        go_wp2
        go_ret2
        exact ⟨hi, by rw [SH.out]; rfl, SE.out.1, hbw⟩

theorem search_any (l : List Ent) (n : List UInt8) (v : Value) (w : World) (hv : Ents w v l) (hs : sortP l) (hl : l.length ≤ 1000000) :
    Calls Tryz.prog 111 #[v, .string ⟨n.toArray⟩] w fun e w' =>
      ∃ lo : Nat, e = .returned (.tuple #[.int .i64 lo, .bool (hasB l n)]) ∧ SrchP l n lo ∧ Below w.heap.size w w' := by
  obtain ⟨a, ca, rfl, hc, hm, HA0⟩ := id hv
  clear HA0
  go_enter Tryz.func111, Tryz.ntmps111
  go_wp2_with fail; refine (halves_any l n _ _ hv hs hl).mono ?_; rintro e w1 ⟨lo, rfl, hS, hb⟩
  go_wp2
  go_ret2
  exact ⟨lo, rfl, hS, hb⟩
end Go.Proofs.YtobepdmpacdakaaGreat

/- Walks: Find; what stands ahead of a name's place, and behind it. -/
namespace Go.Proofs.YtobepdmpacdakaaGreat
open Go.RowKit

theorem Find_any (l : List Ent) (n : List UInt8) (v : Value) (w : World) (hv : Ents w v l) (hs : sortP l) (hl : l.length ≤ 1000000) :
    Calls Tryz.prog 113 #[v, .string ⟨n.toArray⟩] w fun e w' => e = .returned (.tuple #[.int .i64 (numB l n), .bool (hasB l n)]) ∧ Below w.heap.size w w' := by
  obtain ⟨a, ca, rfl, hc, hm, HA0⟩ := id hv
  unfold maxLen at hm
  have HA := Lib.hid HA0
  clear HA0
  go_enter Tryz.func113, Tryz.ntmps113
  go_wp2_with fail; refine (search_any l n _ _ hv hs hl).mono ?_; rintro e w1 ⟨lo, rfl, hS, hb⟩
  cases hh : hasB l n
  · have HF := Lib.hid (find_none hh)
    go_wp2
    go_ret2
    exact ⟨by rw [HF.out.1, HF.out.2]; rfl, hb⟩
  · obtain ⟨hk, hn⟩ := find_srch hS hh
    have HN := Lib.hid hn
    clear hn
    obtain ⟨b, o, rfl, hbl, hcl⟩ := HA.out (by omega)
    have c2 : w1.cell? ⟨b, o + lo * 2 + 1, none⟩ = some (.int .i64 l[lo].2) := (hb.cell (p := ⟨b, o + lo * 2 + 1, none⟩) hbl).trans (hcl _ hk).2
    clear hcl hS
    go_wp2
    go_ret2
    exact ⟨by rw [HN.out, hh]; rfl, hb⟩

def TwoEnts (w : World) (A B : List Ent) (e : Ending) (w' : World) : Prop := ∃ x y, e = .returned (.tuple #[x, y]) ∧ Ents w' x A ∧ Ents w' y B ∧ Below w.heap.size w w'

set_option maxHeartbeats 2000000 in
theorem around_any (l : List Ent) (n : List UInt8) (v : Value) (w : World) (hv : Ents w v l) (hs : sortP l) (hl : l.length ≤ 1000000) :
    Calls Tryz.prog 92 #[v, .string ⟨n.toArray⟩] w (TwoEnts w (aheadB l n) (behindB l n)) := by
  obtain ⟨a, ca, rfl, hc, hm, HA0⟩ := id hv
  have HM := Lib.hid hm
  unfold maxLen at hm
  clear HA0
  go_enter Tryz.func92, Tryz.ntmps92
  go_wp2_with fail; refine (search_any l n _ _ hv hs hl).mono ?_; rintro e w1 ⟨lo, rfl, hS, hb⟩
  have HV := Lib.hid (hv.below hb)
  have HS := Lib.hid hS
  have hlo := hS.1
  have h0 : (0 : Int) ≤ (lo : Int) := by omega
  have h1 : (lo : Int) ≤ (l.length : Int) := by omega
  have h2 : (lo : Int) ≤ (ca : Int) := by omega
  clear hv hS
  have hbd : ∀ q, Below w.heap.size w (w1.drewN q) := fun q => below_drewN hb q
  have HT := Lib.hid HS.out.2.1
  cases hh : hasB l n
  · have HB := Lib.hid (HS.out.2.2.2 hh)
    go_wp2
    go_quiet (fail)
    all_goals go_wp2
    all_goals go_ret2
    all_goals refine ⟨_, _, rfl, ?_, ?_, hbd _⟩
    all_goals first
      | (rw [← HT.out]; exact Ents.head (HV.out.below (below_drewN (Below.refl _ _) _)) lo _ hlo (by omega) (by have := HM.out; omega))
      | (rw [← HB.out]; exact Ents.tail (HV.out.below (below_drewN (Below.refl _ _) _)) lo _ _ _ hlo rfl (by omega) (by have := HM.out; omega) (fun h => by first | rfl | omega))
  · obtain ⟨hk, _, hB⟩ := HS.out.2.2.1 hh
    have HB := Lib.hid hB
    clear hB
    have h3 : (lo : Int) + 1 ≤ (l.length : Int) := by omega
    have h4 : (lo : Int) + 1 ≤ (ca : Int) := by omega
    have h5 : ((lo : Int) + 1).toNat = lo + 1 := by omega
    go_wp2
    go_quiet (fail)
    all_goals go_wp2
    all_goals go_ret2
    all_goals refine ⟨_, _, rfl, ?_, ?_, hbd _⟩
    all_goals first
      | (rw [← HT.out]; exact Ents.head (HV.out.below (below_drewN (Below.refl _ _) _)) lo _ hlo (by omega) (by have := HM.out; omega))
      | (rw [← HB.out]; exact Ents.tail (HV.out.below (below_drewN (Below.refl _ _) _)) (lo + 1) _ _ _ hk rfl (by omega) (by have := HM.out; omega) (fun h => by first | rfl | omega))
end Go.Proofs.YtobepdmpacdakaaGreat

/- Where paths lead, links and dots followed, as lists. No program's function. -/
namespace Go.Proofs.YtobepdmpacdakaaGreat

/-- What an entry's link holds. -/
def lnkD (l : List Nd) (i : Int) (n : List UInt8) : List UInt8 := (getN l (numB (getN l i).ents n)).data
/-- Is the entry taken as it is? -/
def stopB (l : List Nd) (fo dir : Bool) (i : Int) (n : List UInt8) (r : List (List UInt8)) : Bool :=
  !hasB (getN l i).ents n || (getN l (numB (getN l i).ents n)).kind != 3 || (r.isEmpty && !fo && !dir)
/-- On from where one stands, with names to go, so many links being left. -/
def onN (l : List Nd) (fo : Bool) (g : Nat) (s : Sp) (todo : List (List UInt8)) (dir : Bool) : Sp × Int :=
  match todo with
  | [] => if (hasN l s.ino && dir && (getN l s.ino).kind != 2) = true then (zeroS, 3) else (s, 0)
  | n :: r =>
    if s.ino = 0 then (zeroS, 1)
    else if (getN l s.ino).kind = 2 then
      if n = [46] then onN l fo g ⟨0, [], (getN l s.ino).ino⟩ r dir
      else if n = [46, 46] then onN l fo g ⟨0, [], (getN l s.ino).parent⟩ r dir
      else if stopB l fo dir s.ino n r = true then onN l fo g (stepS l s.ino n) r dir
      else match g with
        | 0 => (zeroS, 6)
        | g + 1 => if longB (lnkD l s.ino n) = true then (zeroS, 7)
          else onN l fo g ⟨0, [], if absB (lnkD l s.ino n) = true then 1 else (getN l s.ino).ino⟩ (namesB (lnkD l s.ino n) ++ r) (dir || (slashB (lnkD l s.ino n) && r.isEmpty))
    else (zeroS, 3)
termination_by (g, todo.length)
def homeP (l : List Nd) (base : List UInt8) : Int × Int := if (getP l base).2 ≠ 0 then (0, (getP l base).2) else if (getP l base).1.kind ≠ 2 then (0, 3) else ((getP l base).1.ino, 0)
def seekP (l : List Nd) (base p : List UInt8) (fo : Bool) : Sp × Int :=
  if p = [] then (zeroS, 1) else if longB p = true then (zeroS, 7)
  else if absB p = true then onN l fo 40 rootS (namesB p) (slashB p)
  else if (homeP l base).2 ≠ 0 then (zeroS, (homeP l base).2)
  else onN l fo 40 ⟨0, [], (homeP l base).1⟩ (namesB p) (slashB p)
def dirP (l : List Nd) (base p : List UInt8) : Bool := decide ((seekP l base p true).2 = 0) && isDir l (seekP l base p true).1.ino

theorem on_nil (l : List Nd) (fo : Bool) (g : Nat) (s : Sp) (dir : Bool) : onN l fo g s [] dir = if (hasN l s.ino && dir && (getN l s.ino).kind != 2) = true then (zeroS, 3) else (s, 0) := by unfold onN; rfl
theorem on_gone {l : List Nd} {fo : Bool} {g : Nat} {s : Sp} {n : List UInt8} {r : List (List UInt8)} {dir : Bool} (h : s.ino = 0) : onN l fo g s (n :: r) dir = (zeroS, 1) := by
  unfold onN; rw [if_pos h]
theorem on_file {l : List Nd} {fo : Bool} {g : Nat} {s : Sp} {n : List UInt8} {r : List (List UInt8)} {dir : Bool} (h : s.ino ≠ 0) (hk : (getN l s.ino).kind ≠ 2) : onN l fo g s (n :: r) dir = (zeroS, 3) := by
  unfold onN; rw [if_neg h, if_neg hk]
theorem on_dot {l : List Nd} {fo : Bool} {g : Nat} {s : Sp} {n : List UInt8} {r : List (List UInt8)} {dir : Bool} (h : s.ino ≠ 0) (hk : (getN l s.ino).kind = 2) (hn : n = [46]) : onN l fo g s (n :: r) dir = onN l fo g ⟨0, [], (getN l s.ino).ino⟩ r dir := by
  conv => lhs; unfold onN
  rw [if_neg h, if_pos hk, if_pos hn]
theorem on_dots {l : List Nd} {fo : Bool} {g : Nat} {s : Sp} {n : List UInt8} {r : List (List UInt8)} {dir : Bool} (h : s.ino ≠ 0) (hk : (getN l s.ino).kind = 2) (hn : n = [46, 46]) : onN l fo g s (n :: r) dir = onN l fo g ⟨0, [], (getN l s.ino).parent⟩ r dir := by
  conv => lhs; unfold onN
  rw [if_neg h, if_pos hk, if_neg (by rw [hn]; decide), if_pos hn]
theorem on_stop {l : List Nd} {fo : Bool} {g : Nat} {s : Sp} {n : List UInt8} {r : List (List UInt8)} {dir : Bool} (h : s.ino ≠ 0) (hk : (getN l s.ino).kind = 2) (h1 : n ≠ [46]) (h2 : n ≠ [46, 46]) (h3 : stopB l fo dir s.ino n r = true) :
    onN l fo g s (n :: r) dir = onN l fo g (stepS l s.ino n) r dir := by
  conv => lhs; unfold onN
  rw [if_neg h, if_pos hk, if_neg h1, if_neg h2, if_pos h3]
theorem on_loop {l : List Nd} {fo : Bool} {s : Sp} {n : List UInt8} {r : List (List UInt8)} {dir : Bool} (h : s.ino ≠ 0) (hk : (getN l s.ino).kind = 2) (h1 : n ≠ [46]) (h2 : n ≠ [46, 46]) (h3 : stopB l fo dir s.ino n r = false) :
    onN l fo 0 s (n :: r) dir = (zeroS, 6) := by
  unfold onN
  rw [if_neg h, if_pos hk, if_neg h1, if_neg h2, if_neg (by rw [h3]; simp)]
theorem on_long {l : List Nd} {fo : Bool} {g : Nat} {s : Sp} {n : List UInt8} {r : List (List UInt8)} {dir : Bool} (h : s.ino ≠ 0) (hk : (getN l s.ino).kind = 2) (h1 : n ≠ [46]) (h2 : n ≠ [46, 46]) (h3 : stopB l fo dir s.ino n r = false) (h4 : longB (lnkD l s.ino n) = true) :
    onN l fo (g + 1) s (n :: r) dir = (zeroS, 7) := by
  unfold onN
  rw [if_neg h, if_pos hk, if_neg h1, if_neg h2, if_neg (by rw [h3]; simp)]
  show (if longB _ = true then _ else _) = _
  rw [if_pos h4]
theorem on_link {l : List Nd} {fo : Bool} {g : Nat} {s : Sp} {n : List UInt8} {r : List (List UInt8)} {dir : Bool} (h : s.ino ≠ 0) (hk : (getN l s.ino).kind = 2) (h1 : n ≠ [46]) (h2 : n ≠ [46, 46]) (h3 : stopB l fo dir s.ino n r = false) (h4 : longB (lnkD l s.ino n) = false) :
    onN l fo (g + 1) s (n :: r) dir = onN l fo g ⟨0, [], if absB (lnkD l s.ino n) = true then 1 else (getN l s.ino).ino⟩ (namesB (lnkD l s.ino n) ++ r) (dir || (slashB (lnkD l s.ino n) && r.isEmpty)) := by
  conv => lhs; unfold onN
  rw [if_neg h, if_pos hk, if_neg h1, if_neg h2, if_neg (by rw [h3]; simp)]
  show (if longB _ = true then _ else _) = _
  rw [if_neg (by rw [h4]; simp)]

theorem may_dots {n : List UInt8} (h : mayB n = true) : n ≠ [46] ∧ n ≠ [46, 46] ∧ n.length ≤ 255 := by
  simp only [mayB, Bool.and_eq_true, bne_iff_ne, decide_eq_true_eq] at h
  exact ⟨h.1.1.1.1.2, h.1.1.1.2, h.1.1.2⟩
/-- Along a plain way on which no link is followed. -/
theorem on_way (l : List Nd) (fo dir : Bool) (g : Nat) (r : List (List UInt8)) : ∀ (s t : Sp) (m : List (List UInt8)), r.all mayB = true → atN l s r = (t, 0) → (r = [] ∨ (getN l t.ino).kind ≠ 3 ∨ (m = [] ∧ fo = false ∧ dir = false)) → onN l fo g s (r ++ m) dir = onN l fo g t m dir := by
  induction r with
  | nil => intro s t m _ h _; rw [show t = s from (Prod.mk.inj h).1.symm]; rfl
  | cons n r ih =>
    intro s t m hm h hc
    rw [List.all_cons, Bool.and_eq_true] at hm
    by_cases h0 : s.ino = 0
    · rw [at_gone h0] at h; cases h
    · by_cases hk : (getN l s.ino).kind = 2
      · rw [at_on h0 hk] at h
        obtain ⟨n1, n2, _⟩ := may_dots hm.1
        rw [List.cons_append, on_stop h0 hk n1 n2 ?_]
        · refine ih _ _ m hm.2 h ?_
          rcases hc with hc | hc
          · cases hc
          · exact .inr hc
        · unfold stopB
          cases r with
          | nil =>
            have e : t = stepS l s.ino n := (Prod.mk.inj h).1.symm
            rcases hc with hc | hc | ⟨rfl, rfl, rfl⟩
            · cases hc
            · rw [e] at hc
              have : ((getN l (numB (getN l s.ino).ents n)).kind != 3) = true := by
                show ((getN l (stepS l s.ino n).ino).kind != 3) = true
                simpa using hc
              rw [this]; simp
            · simp
          | cons c r =>
            have hk2 : (getN l (stepS l s.ino n).ino).kind = 2 := by
              by_cases e0 : (stepS l s.ino n).ino = 0
              · rw [at_gone e0] at h; cases h
              · refine Decidable.byContradiction fun hk2 => ?_
                rw [at_file e0 hk2] at h; cases h
            have : ((getN l (numB (getN l s.ino).ents n)).kind != 3) = true := by
              show ((getN l (stepS l s.ino n).ino).kind != 3) = true
              rw [hk2]; decide
            rw [this]; simp
      · rw [at_file h0 hk] at h; cases h

/-! ### Plain paths -/
theorem slash_join {ns : List (List UInt8)} (h : goodB ns) : slashB (joinB ns) = false := by
  unfold slashB
  rw [namesB_join _ h]
  cases ns with
  | nil => rfl
  | cons n r =>
    obtain ⟨h1, h2⟩ := h n (by simp)
    obtain ⟨c, hc, hne⟩ := tailB_last r (fun m hm => h m (by simp [hm])) n h2 h1
    have e : joinB (n :: r) = [47] ++ (n ++ tailB r) := by simp [joinB, interB]
    unfold endB
    rw [e, last_app _ _ (by simp [h2]), hc]
    simp [hne]
theorem abs_join (ns : List (List UInt8)) (x : List UInt8) : absB (joinB ns ++ x) = true := by simp [joinB, absB]
theorem long_more {ns ms : List (List UInt8)} {p : List UInt8} (h : ns.all mayB = true) (hm : ∀ m ∈ ms, m.length ≤ 255) (hn : namesB p = ns ++ ms) (hl : p.length ≤ 4095) : longB p = false := by
  unfold longB
  rw [hn, decide_eq_false (by omega), Bool.false_or, List.any_eq_false]
  intro n hx
  rw [decide_eq_true_eq]
  rcases List.mem_append.1 hx with hx | hx
  · have := (may_dots (List.all_eq_true.1 h n hx)).2.2; omega
  · have := hm n hx; omega
/-- A plain path on which no link stands but at its end leads, not followed, where the plain way does. -/
theorem seek_plain {l : List Nd} {ns : List (List UInt8)} {s : Sp} {j : Int} (base : List UInt8) (hm : ns.all mayB = true) (h : Ends l rootS s ns j) (hl : (joinB ns).length ≤ 4095) : seekP l base (joinB ns) false = (s, 0) := by
  have hg := mayB_all hm
  unfold seekP
  rw [if_neg (by simp [joinB]), if_neg (by rw [long_more (ms := []) hm (by simp) (by rw [namesB_join _ hg, List.append_nil]) hl]; simp), if_pos (by have := abs_join ns []; rwa [List.append_nil] at this), namesB_join _ hg, slash_join hg]
  have := on_way l false false 40 ns rootS s [] hm h.leads (.inr (.inr ⟨rfl, rfl, rfl⟩))
  rw [List.append_nil] at this
  rw [this, on_nil, if_neg (by simp)]
theorem home_of {l : List Nd} {ns : List (List UInt8)} {s : Sp} {j : Int} (hm : ns.all mayB = true) (h : Ends l rootS s ns j) (hk : (getN l j).kind = 2) : homeP l (joinB ns) = (j, 0) := by
  unfold homeP
  rw [(list_atP hm h).2, if_neg (by simp), if_neg (by simpa using hk), (get_mem h.has).2]
theorem names_may {n : List UInt8} (h : mayB n = true) : namesB n = [n] ∧ absB n = false ∧ slashB n = false := by
  obtain ⟨h1, h2⟩ := mayB_good h
  have e : namesB n = [n] := by have := namesB_inter [n] (by intro m hm; rw [List.mem_singleton.1 hm]; exact ⟨h1, h2⟩); simpa [interB, tailB] using this
  refine ⟨e, ?_, ?_⟩
  · cases n with
    | nil => exact absurd rfl h2
    | cons c r =>
      have : c ≠ 47 := fun e => h1 (by simp [e])
      simp [absB, this]
  · obtain ⟨c, hc, hne⟩ := tailB_last [] (fun m hm => nomatch hm) n h2 h1
    rw [tailB, List.append_nil] at hc
    unfold slashB endB
    rw [hc]; simp [hne]
theorem seek_name {l : List Nd} {ns : List (List UInt8)} {s : Sp} {j : Int} {n : List UInt8} (hm : ns.all mayB = true) (h : Ends l rootS s ns j) (hk : (getN l j).kind = 2) (hn : mayB n = true) : seekP l (joinB ns) n false = (stepS l j n, 0) ∧ atP l (joinB (ns ++ [n])) = (stepS l j n, 0) := by
  obtain ⟨e1, e2, e3⟩ := names_may hn
  obtain ⟨d1, d2, d3⟩ := may_dots hn
  have hp := h.pos
  constructor
  · unfold seekP
    rw [if_neg (mayB_good hn).2, if_neg (by rw [long_more (ns := [n]) (ms := []) (by simp [hn]) (by simp) (by simpa using e1) (by omega)]; simp), if_neg (by rw [e2]; simp), home_of hm h hk, if_neg (by simp), e1, e3]
    rw [on_stop (by show j ≠ 0; omega) hk d1 d2 (by unfold stopB; simp), on_nil, if_neg (by simp)]
  · unfold atP
    rw [plainB_join (by rw [List.all_append, hm]; simp [hn])]
    show atN l rootS (ns ++ [n]) = _
    rw [at_append _ _ h.leads, at_on (by rw [h.ino]; omega) (by rw [h.ino]; exact hk), h.ino]; rfl

/-! ### Dots and slashes behind -/
theorem names_behind (ns : List (List UInt8)) (x : List UInt8) (h : goodB ns) : namesB (joinB ns ++ 47 :: x) = ns ++ namesB x := by rw [joinB, List.cons_append, namesB_slash, namesB_inter_more _ _ h]
theorem seek_behind {l : List Nd} {ns : List (List UInt8)} {s : Sp} {j : Int} (base x : List UInt8) (hm : ns.all mayB = true) (h : Ends l rootS s ns j) (hl : (joinB ns).length ≤ 4000) (hx : x.length ≤ 2) (hk : (getN l j).kind ≠ 3) :
    seekP l base (joinB ns ++ 47 :: x) false = onN l false 40 s (namesB x) (slashB (joinB ns ++ 47 :: x)) := by
  have hg := mayB_all hm
  have hn := names_behind ns x hg
  unfold seekP
  rw [if_neg (by simp [joinB]), if_neg (by rw [long_more (ms := namesB x) hm (fun m hm => by have := namesB_size x m hm; omega) hn (by simp; omega)]; simp), if_pos (abs_join ns _), hn]
  exact on_way l false _ 40 ns rootS s _ hm h.leads (.inr (.inl (by rw [h.ino]; exact hk)))
theorem slash_dot (ns : List (List UInt8)) (x : List UInt8) (c : UInt8) (hc : c ≠ 47) : slashB (joinB ns ++ 47 :: (x ++ [c])) = false := by
  unfold slashB endB
  rw [show joinB ns ++ 47 :: (x ++ [c]) = (joinB ns ++ 47 :: x) ++ [c] from by simp, List.getLast?_concat]
  simp [hc]
theorem slash_slash (ns : List (List UInt8)) (h : goodB ns) : slashB (joinB ns ++ 47 :: []) = !ns.isEmpty := by
  unfold slashB endB
  rw [names_behind _ _ h, List.getLast?_concat, namesB_nil, List.append_nil]
  simp
theorem dots_at {l : List Nd} {ns : List (List UInt8)} {s : Sp} {j : Int} (base : List UInt8) (hm : ns.all mayB = true) (h : Ends l rootS s ns j) (hl : (joinB ns).length ≤ 4000) (hk : (getN l j).kind = 2) :
    seekP l base (joinB ns ++ [47, 46]) false = (⟨0, [], j⟩, 0) ∧ seekP l base (joinB ns ++ [47, 46, 46]) false = (⟨0, [], (getN l j).parent⟩, 0) ∧ seekP l base (joinB ns ++ [47]) false = seekP l base (joinB ns) false := by
  have hp := h.pos
  have hi := h.ino
  have k3 : (getN l j).kind ≠ 3 := by omega
  have n1 : namesB [46] = [[46]] := by decide
  have n2 : namesB [46, 46] = [[46, 46]] := by decide
  refine ⟨?_, ?_, ?_⟩
  · rw [seek_behind base [46] hm h hl (by simp) k3, show (46 :: [] : List UInt8) = [] ++ [46] from rfl, slash_dot ns [] 46 (by decide), List.nil_append, n1, on_dot (by omega) (by rw [hi]; exact hk) rfl, on_nil, if_neg (by simp), hi, (get_mem h.has).2]
  · rw [seek_behind base [46, 46] hm h hl (by simp) k3, show (46 :: [46] : List UInt8) = [46] ++ [46] from rfl, slash_dot ns [46] 46 (by decide), show ([46] ++ [46] : List UInt8) = [46, 46] from rfl, n2, on_dots (by omega) (by rw [hi]; exact hk) rfl, on_nil, if_neg (by simp), hi]
  · rw [seek_behind base [] hm h hl (by simp) k3, namesB_nil, on_nil, seek_plain base hm h (by omega), if_neg]
    rw [hi, hk]; simp
theorem dots_file {l : List Nd} {ns : List (List UInt8)} {s : Sp} {j : Int} (base : List UInt8) (hm : ns.all mayB = true) (h : Ends l rootS s ns j) (hl : (joinB ns).length ≤ 4000) (hk : (getN l j).kind = 1) (hne : ns ≠ []) :
    (seekP l base (joinB ns ++ [47, 46]) false).2 = 3 ∧ (seekP l base (joinB ns ++ [47, 46, 46]) false).2 = 3 ∧ (seekP l base (joinB ns ++ [47]) false).2 = 3 := by
  have hp := h.pos
  have hi := h.ino
  have k3 : (getN l j).kind ≠ 3 := by omega
  have n1 : namesB [46] = [[46]] := by decide
  have n2 : namesB [46, 46] = [[46, 46]] := by decide
  refine ⟨?_, ?_, ?_⟩
  · rw [seek_behind base [46] hm h hl (by simp) k3, n1, on_file (by omega) (by rw [hi]; omega)]
  · rw [seek_behind base [46, 46] hm h hl (by simp) k3, n2, on_file (by omega) (by rw [hi]; omega)]
  · rw [seek_behind base [] hm h hl (by simp) k3, namesB_nil, on_nil, slash_slash ns (mayB_all hm), if_pos]
    rw [hi, hk, h.has]
    cases ns with
    | nil => exact absurd rfl hne
    | cons a r => rfl
end Go.Proofs.YtobepdmpacdakaaGreat

/- What a path that is followed to its end leads to. No program's function. -/
namespace Go.Proofs.YtobepdmpacdakaaGreat

theorem dir_parts {l : List Nd} {i : Int} (h : isDir l i = true) : hasN l i = true ∧ (getN l i).kind = 2 := by
  unfold isDir at h
  rwa [Bool.and_eq_true, decide_eq_true_eq] at h
theorem dir_mk {l : List Nd} {i : Int} (h : hasN l i = true) (hk : (getN l i).kind = 2) : isDir l i = true := by unfold isDir; rw [h, hk]; rfl
theorem kind_has {l : List Nd} {i : Int} (hk : (getN l i).kind = 2) : isDir l i = true := by
  cases h : hasN l i
  · rw [getN_none h] at hk; cases hk
  · exact dir_mk h hk
/-- Who is named lies in a directory. -/
theorem in_dir {l : List Nd} (t : Tree l) {i : Int} (h : 0 < namesN l i) : isDir l (inN l i) = true ∧ ∃ n, (n, i) ∈ (getN l (inN l i)).ents := by
  have hf : (pairsN l).filter (fun p => p.2.2 == i) ≠ [] := by
    intro e
    unfold namesN cntP at h
    rw [List.countP_eq_length_filter, e] at h
    exact absurd h (by simp)
  have hlast := List.getLast?_eq_some_getLast hf
  have hmem := List.getLast_mem hf
  generalize ((pairsN l).filter (fun p => p.2.2 == i)).getLast hf = p at *
  have e : inN l i = p.1 := by unfold inN lastP; rw [hlast]; rfl
  obtain ⟨h1, h2⟩ := List.mem_filter.1 hmem
  obtain ⟨x, hx, hx2⟩ := List.mem_flatMap.1 h1
  obtain ⟨en, he, rfl⟩ := List.mem_map.1 hx2
  rw [e]
  have hg := getN_of t.rise hx
  have hen : en.2 = i := by simpa using h2
  have hin : en ∈ (getN l x.ino).ents := by rw [hg.1]; exact he
  refine ⟨?_, en.1, ?_⟩
  · have := ent_dir t hin
    exact dir_mk this.2 this.1
  · rw [← hen]; exact hin
theorem root_parent {mi mb nx : Int} {l : List Nd} (h : okB mi mb nx l = true) : (getN l 1).parent = 1 := by
  have t := tree_of h
  obtain ⟨_, _, _, _, h4, _⟩ := ok_parts h
  have hm := get_mem t.root
  have := List.all_eq_true.1 h4 _ hm.1
  unfold fourthX at this
  rw [hm.2, if_pos rfl] at this
  simp only [Bool.and_eq_true, decide_eq_true_eq] at this
  exact this.2.2
theorem parent_dir {mi mb nx : Int} {l : List Nd} (h : okB mi mb nx l = true) {i : Int} (hd : isDir l i = true) : isDir l (getN l i).parent = true := by
  have t := tree_of h
  obtain ⟨hh, hk⟩ := dir_parts hd
  have hm := get_mem hh
  by_cases h1 : i = 1
  · subst h1
    rw [root_parent h]; exact hd
  · have h2 := t.parent _ hm.1 hk (by rw [hm.2]; exact h1)
    have h3 := t.once _ hm.1 hk (by rw [hm.2]; exact h1)
    rw [hm.2] at h2 h3
    rw [h2]
    exact (in_dir t (by omega)).1
theorem no_zero {mi mb nx : Int} {l : List Nd} (h : okB mi mb nx l = true) : hasN l 0 = false := by
  obtain ⟨_, h1, _⟩ := ok_parts h
  simp only [firstB, Bool.and_eq_true] at h1
  unfold hasN
  rw [List.any_eq_false]
  intro x hx
  have := List.all_eq_true.1 h1.1.2 x hx
  unfold inoB at this
  rw [Bool.and_eq_true, decide_eq_true_eq] at this
  simp; omega
theorem num_has {l : List Nd} (t : Tree l) {i : Int} {n : List UInt8} (h : numB (getN l i).ents n ≠ 0) : hasN l (numB (getN l i).ents n) = true := by
  cases hb : hasB (getN l i).ents n
  · exact absurd (find_none hb).1 h
  · unfold hasB at hb
    rw [List.any_eq_true] at hb
    obtain ⟨e, he, h2⟩ := hb
    have e1 : e.1 = n := by simpa using h2
    have e2 := (num_mem (ents_pair t i) he).1
    rw [e1] at e2
    rw [e2]
    exact t.there _ (get_mem (ent_dir t he).2).1 e he
/-- A place that was followed. -/
structure Good (l : List Nd) (s : Sp) : Prop where
  bare : s.name = [] → isDir l s.ino = true ∧ s.dir = 0
  entry : s.name ≠ [] → isDir l s.dir = true ∧ numB (getN l s.dir).ents s.name = s.ino ∧ (s.ino ≠ 0 → hasN l s.ino = true) ∧ (getN l s.ino).kind ≠ 3
def Fine (l : List Nd) (r : Sp × Int) : Prop := (r.2 = 0 → Good l r.1) ∧ (r.2 ≠ 0 → r.1 = zeroS)
theorem fine_bad {l : List Nd} {e : Int} (h : e ≠ 0) : Fine l (zeroS, e) := ⟨fun h2 => absurd h2 h, fun _ => rfl⟩
theorem good_bare {l : List Nd} {i : Int} (h : isDir l i = true) : Good l ⟨0, [], i⟩ := ⟨fun _ => ⟨h, rfl⟩, fun h => absurd rfl h⟩
theorem step_good {mi mb nx : Int} {l : List Nd} (h : okB mi mb nx l = true) {i : Int} {n : List UInt8} (hd : isDir l i = true) (hn : n ≠ []) (hk : (getN l (numB (getN l i).ents n)).kind ≠ 3) : Good l (stepS l i n) := by
  have hm := get_mem (dir_parts hd).1
  refine ⟨fun h => absurd h hn, fun _ => ?_⟩
  have e : (stepS l i n).dir = i := hm.2
  rw [e]
  exact ⟨hd, rfl, fun h2 => num_has (tree_of h) h2, hk⟩
theorem on_good {mi mb nx : Int} {l : List Nd} (h : okB mi mb nx l = true) (g : Nat) (s : Sp) (todo : List (List UInt8)) (dir : Bool) (hs : Good l s) (hn : ∀ n ∈ todo, n ≠ []) : Fine l (onN l true g s todo dir) := by
  match todo with
  | [] =>
    rw [on_nil]
    split
    · exact fine_bad (by decide)
    · exact ⟨fun _ => hs, fun h => absurd rfl h⟩
  | n :: r =>
    have hn1 := hn n (by simp)
    have hnr : ∀ m ∈ r, m ≠ [] := fun m hm => hn m (by simp [hm])
    by_cases h0 : s.ino = 0
    · rw [on_gone h0]; exact fine_bad (by decide)
    by_cases hk : (getN l s.ino).kind = 2
    · have hd := kind_has hk
      have hm := get_mem (dir_parts hd).1
      by_cases d1 : n = [46]
      · rw [on_dot h0 hk d1]
        exact on_good h g _ r dir (good_bare (by rw [hm.2]; exact hd)) hnr
      by_cases d2 : n = [46, 46]
      · rw [on_dots h0 hk d2]
        exact on_good h g _ r dir (good_bare (parent_dir h hd)) hnr
      cases hst : stopB l true dir s.ino n r
      · match g with
        | 0 => rw [on_loop h0 hk d1 d2 hst]; exact fine_bad (by decide)
        | g + 1 =>
          cases hlo : longB (lnkD l s.ino n)
          · rw [on_link h0 hk d1 d2 hst hlo]
            refine on_good h g _ _ _ (good_bare ?_) ?_
            · split
              · exact kind_has (tree_of h).rootDir
              · rw [hm.2]; exact hd
            · intro m hm2
              rcases List.mem_append.1 hm2 with hm2 | hm2
              · exact (namesB_good _ m hm2).2
              · exact hnr m hm2
          · rw [on_long h0 hk d1 d2 hst hlo]; exact fine_bad (by decide)
      · rw [on_stop h0 hk d1 d2 hst]
        refine on_good h g _ r dir (step_good h hd hn1 ?_) hnr
        unfold stopB at hst
        cases hb : hasB (getN l s.ino).ents n
        · rw [(find_none hb).1, getN_none (no_zero h)]; decide
        · rw [hb] at hst
          simpa using hst
    · rw [on_file h0 hk]; exact fine_bad (by decide)
termination_by (g, todo.length)
theorem at_zero (l : List Nd) (r : List (List UInt8)) : ∀ s, (atN l s r).2 ≠ 0 → (atN l s r).1 = zeroS := by
  induction r with
  | nil => intro s h; exact absurd rfl h
  | cons n r ih =>
    intro s h
    by_cases h0 : s.ino = 0
    · rw [at_gone h0]
    · by_cases hk : (getN l s.ino).kind = 2
      · rw [at_on h0 hk] at h ⊢; exact ih _ h
      · rw [at_file h0 hk]
theorem home_dir {l : List Nd} {base : List UInt8} (h : (homeP l base).2 = 0) : isDir l (homeP l base).1 = true := by
  unfold homeP at h ⊢
  split
  · rename_i h1; rw [if_pos h1] at h; exact absurd h h1
  · rename_i h1
    rw [if_neg h1] at h
    split
    · rename_i h2; rw [if_pos h2] at h; cases h
    · rename_i h2
      have h3 : (getP l base).1.kind = 2 := by simpa using h2
      show isDir l (getP l base).1.ino = true
      have e : getP l base = (getN l (atP l base).1.ino, 0) := by
        unfold getP at h3 h1 ⊢
        split
        · rename_i h4; rw [if_pos h4] at h3; cases h3
        · rename_i h4
          rw [if_neg h4] at h3
          split
          · rename_i h5; rw [if_pos h5] at h3; cases h3
          · rfl
      rw [e] at h3 ⊢
      have hd := kind_has h3
      rw [(get_mem (dir_parts hd).1).2]; exact hd
theorem seek_good {mi mb nx : Int} {l : List Nd} (h : okB mi mb nx l = true) (base p : List UInt8) : Fine l (seekP l base p true) := by
  have hg : ∀ n ∈ namesB p, n ≠ [] := fun n hn => (namesB_good p n hn).2
  unfold seekP
  split
  · exact fine_bad (by decide)
  split
  · exact fine_bad (by decide)
  split
  · exact on_good h _ _ _ _ (good_bare (kind_has (tree_of h).rootDir)) hg
  split
  · rename_i h1; exact fine_bad h1
  · rename_i h1
    exact on_good h _ _ _ _ (good_bare (home_dir (by simpa using h1))) hg

/-! ### The last of that name -/
def lastB (es : List Ent) (n : List UInt8) : Int := ((es.filter (fun e => e.1 == n)).getLast?.map (·.2)).getD 0
theorem lastB_next {es : List Ent} {n : List UInt8} {k : Nat} (h : k < es.length) : lastB (es.take (k + 1)) n = if es[k].1 == n then es[k].2 else lastB (es.take k) n := by
  rw [List.take_succ_eq_append_getElem h]
  unfold lastB
  rw [List.filter_append]
  cases e : (es[k].1 == n) <;> simp [e]
theorem lastB_num {es : List Ent} (h : es.Pairwise (fun a b => a.1 ≠ b.1)) (n : List UInt8) : lastB es n = numB es n := by
  cases hb : hasB es n
  · rw [(find_none hb).1]
    unfold lastB
    rw [List.filter_eq_nil_iff.2 fun e he => by
      have := (List.any_eq_false.1 hb) e he
      exact this]
    rfl
  · unfold hasB at hb
    rw [List.any_eq_true] at hb
    obtain ⟨e, he, h2⟩ := hb
    have e1 : e.1 = n := by simpa using h2
    have e2 := (num_mem h he).1
    rw [e1] at e2
    rw [e2]
    have hf : es.filter (fun e => e.1 == n) ≠ [] := List.ne_nil_of_mem (List.mem_filter.2 ⟨he, h2⟩)
    unfold lastB
    rw [List.getLast?_eq_some_getLast hf]
    have hm := List.mem_filter.1 (List.getLast_mem hf)
    generalize (es.filter (fun e => e.1 == n)).getLast hf = z at *
    have z1 : z.1 = n := by simpa using hm.2
    have z2 := (num_mem h hm.1).1
    rw [z1, ← e1, (num_mem h he).1] at z2
    rw [Option.map_some, Option.getD_some, z2]
end Go.Proofs.YtobepdmpacdakaaGreat

/- Walks: the document's Long, May, Under, Plain, Read. -/
namespace Go.Proofs.YtobepdmpacdakaaGreat
open Go.RowKit

theorem refLong_any (p : List UInt8) (w : World) (hp : p.length ≤ 1000000) :
    Calls Tryz.prog 35 #[.string ⟨p.toArray⟩] w fun e w' => e = .returned (.bool (longB p)) ∧ Below w.heap.size w w' := by
  have hct := namesB_count p
  go_enter Tryz.func35, Tryz.ntmps35
  go_wp2_with fail; refine (refNames_any p _ hp).mono ?_; rintro e w1 ⟨v, rfl, hown, h1⟩
  obtain ⟨ad, ca, rfl, hm, HA0⟩ := own_strs hown
  have HA := Lib.hid HA0
  clear HA0 hm hown
  go_wp2
  go_loop [4] (fun i => ∃ k : Nat, k ≤ (namesB p).length ∧ i = .int .i64 k ∧ Aside (∀ j (hj : j < (namesB p).length), j < k → (namesB p)[j].length ≤ 255)) (fun i => (namesB p).length - (intOf i).toNat)
  case atStart => exact ⟨0, Nat.zero_le _, rfl, fun j hj h => absurd h (by omega)⟩
  case round =>
    obtain ⟨k, hk, rfl, HT⟩ := hrel
    by_cases hlt : k < (namesB p).length
    · obtain ⟨ba, oa, rfl, hba, hca⟩ := HA.out (by omega)
      have c1 : w1.cell? ⟨ba, oa + k, none⟩ = some (.string ⟨(namesB p)[k].toArray⟩) := hca k hlt
      clear hca
      by_cases h3 : (namesB p)[k].length ≤ 255
      · have HT2 : Hid (∀ j (hj : j < (namesB p).length), j < k + 1 → (namesB p)[j].length ≤ 255) := by
          intro j hj h
          rcases Nat.lt_or_ge j k with h' | h'
          · exact HT.out j hj h'
          · obtain rfl : j = k := by omega
            exact h3
        go_wp2
        go_round
        case rel => exact ⟨k + 1, by omega, by go_num, HT2.out⟩
        case measure => simp [intOf]; omega
      · have HN : Hid (longB p = true) := by
          (show _ = _); simp only [longB, Bool.or_eq_true, List.any_eq_true, decide_eq_true_eq]
          exact .inr ⟨_, List.getElem_mem hlt, by omega⟩
        go_wp2
        go_ret
        exact ⟨ret_bool (by rw [HN.out]), h1⟩
    · have HN : Hid (longB p = decide (4095 < p.length)) := by
        have : (namesB p).any (fun n => decide (255 < n.length)) = false := by
          simp only [List.any_eq_false, decide_eq_true_eq]
          intro n hn
          obtain ⟨j, hj, rfl⟩ := List.getElem_of_mem hn
          have := HT.out j hj (by omega)
          omega
        (show _ = _); unfold longB; rw [this, Bool.or_false]
      go_wp2
      go_ret
      exact ⟨ret_bool (by rw [HN.out]; simp; try omega), h1⟩

end Go.Proofs.YtobepdmpacdakaaGreat

/- A drawn region's operations, taken one by one: its destination given outright; one that no guard wants is passed over. -/
namespace Go.Proofs.YtobepdmpacdakaaGreat

section
variable {P : Program} {ops : Array Oper} {Q : Exit → Act → World → Prop} {md : Region.Mode} {S : World → Prop}
theorem heldTake (i : Nat) (d : Option Tmp) {oi : Oper} {v : Value} {fuel : Nat} {listed : Array Bool} {a : Act} {w : World} (hi : ops[i]? = some oi) (hd : oi.dst = d)
    (hs : Region.noSelect ops = true) (hf : Region.free md ops listed i = true) (hr : (Region.ready md ops listed).contains i = true)
    (hQ : ∀ c a w, Q (.panic c) (a.put d v) w → Q (.panic c) a w) (hw : Region.wanted oi (yielded ops a.tmps) = true) (hv : ∀ w, S w → (execOp a.eval oi).run P w = .ok (.value v) w) (hS : S w)
    (h : wpAnyH P md ops Q S fuel (listed.setIfInBounds i true) (a.put d v) w) : wpAnyH P md ops Q S (fuel + 1) listed a w := by
  subst hd
  exact wpAnyH_take hi hs hf hr hQ (.inl ⟨hw, hv⟩) hS h
theorem heldSkip (i : Nat) (d : Option Tmp) {oi : Oper} {fuel : Nat} {listed : Array Bool} {a : Act} {w : World} (hi : ops[i]? = some oi) (hd : oi.dst = d)
    (hs : Region.noSelect ops = true) (hf : Region.free md ops listed i = true) (hr : (Region.ready md ops listed).contains i = true)
    (hQ : ∀ c a w, Q (.panic c) (a.put d undef) w → Q (.panic c) a w) (hw : Region.wanted oi (yielded ops a.tmps) = false) (hS : S w)
    (h : wpAnyH P md ops Q S fuel (listed.setIfInBounds i true) (a.put d undef) w) : wpAnyH P md ops Q S (fuel + 1) listed a w := by
  subst hd
  exact wpAnyH_take hi hs hf hr hQ (.inr ⟨hw, rfl⟩) hS h
end
end Go.Proofs.YtobepdmpacdakaaGreat

/- Walks: With, Without, Names. -/
namespace Go.Proofs.YtobepdmpacdakaaGreat
open Go.RowKit

theorem parts_two {w : World} {x y : Value} {A B : List Ent} (hx : Ents w x A) (hy : Ents w y B) (t : TypeId) : Parts (w.alloc (.cells #[x, y] t)) (.slice (some ⟨w.heap.size, 0, none⟩) 2 2) [A, B] := by
  have hb : Below w.heap.size w (w.alloc (.cells #[x, y] t)) := (Below.refl _ w).alloc (Nat.le_refl _) _
  have hB := Blk.new w t #[x, y]
  refine ⟨_, 2, rfl, fun _ => ⟨w.heap.size, 0, rfl, hB.lt, fun i hi => ?_⟩⟩
  have : i = 0 ∨ i = 1 := by simp at hi; omega
  rcases this with rfl | rfl
  · exact ⟨x, (hB.cell 0).trans rfl, hx.below hb⟩
  · exact ⟨y, (hB.cell 1).trans rfl, hy.below hb⟩
theorem parts_three {w : World} {x y z : Value} {A B C : List Ent} (hx : Ents w x A) (hy : Ents w y B) (hz : Ents w z C) (t : TypeId) (n : Nat) (hn : n = w.heap.size) : Parts (w.alloc (.cells #[x, y, z] t)) (.slice (some ⟨n, 0, none⟩) 3 3) [A, B, C] := by
  subst hn
  have hb : Below w.heap.size w (w.alloc (.cells #[x, y, z] t)) := (Below.refl _ w).alloc (Nat.le_refl _) _
  have hB := Blk.new w t #[x, y, z]
  refine ⟨_, 3, rfl, fun _ => ⟨w.heap.size, 0, rfl, hB.lt, fun i hi => ?_⟩⟩
  have : i = 0 ∨ i = 1 ∨ i = 2 := by simp at hi; omega
  rcases this with rfl | rfl | rfl
  · exact ⟨x, (hB.cell 0).trans rfl, hx.below hb⟩
  · exact ⟨y, (hB.cell 1).trans rfl, hy.below hb⟩
  · exact ⟨z, (hB.cell 2).trans rfl, hz.below hb⟩

set_option maxHeartbeats 1000000 in
theorem With_any (l : List Ent) (n : List UInt8) (i : Int) (v : Value) (w : World) (hv : Ents w v l) (hs : sortP l) (hl : l.length ≤ 999999) (hsh : shortP 100000000 l) (hn : n.length ≤ 100000000) :
    Calls Tryz.prog 68 #[v, .string ⟨n.toArray⟩, .int .i64 i] w (NewEnts w (withB l n i)) := by
  obtain ⟨a, ca, rfl, hc, hm, HA0⟩ := id hv
  clear HA0
  go_enter Tryz.func68, Tryz.ntmps68
  go_wp2_with fail; refine (around_any l n _ _ hv hs (by omega)).mono ?_; rintro e w1 ⟨x, y, rfl, hx, hy, hb⟩
  have hbo : Below w1.heap.size w1 (w1.alloc (.cells (entC (n, i)) 90)) := (Below.refl _ w1).alloc (Nat.le_refl _) _
  have hone : Ents (w1.alloc (.cells (entC (n, i)) 90)) (.slice (some ⟨w1.heap.size, 0, none⟩) 1 1) [(n, i)] := blk_ents (L := [(n, i)]) (Blk.new w1 90 (entC (n, i))) (by simp [maxLen])
  have hb1 := hb.trans (hbo.mono hb.size)
  have hp := parts_three (hx.below hbo) hone (hy.below hbo) 43 (w1.heap.size + 1) (by simp)
  have hb2 := hb1.alloc hb1.size (.cells #[x, .slice (some ⟨w1.heap.size, 0, none⟩) 1 1, y] 43)
  have hfl : [aheadB l n, [(n, i)], behindB l n].flatten = withB l n i := by simp [withB]
  have hle := with_len l n i
  have hsw := with_short i hsh hn
  obtain ⟨a1, c1, rfl, _, _, _⟩ := hx
  obtain ⟨a2, c2, rfl, _, _, _⟩ := hy
  go_wp2_with fail
  refine (join_any _ _ _ hp (by simp) (by rw [hfl]; omega) (by rw [hfl]; exact hsw)).mono ?_
  rintro e w2 ⟨g, rfl, hg, hB, hb3⟩
  rw [hfl] at hB ⊢
  go_wp2
  go_ret
  exact ⟨g, rfl, Nat.le_trans hb2.size hg, hB, hb2.trans (hb3.mono hb2.size)⟩

theorem infoT : (Tryz.prog.info? 9).map (fun i => (i.zero, i.size, i.bytes)) = some (some (.string ⟨#[]⟩), 1, 16) := by kernel_rfl

end Go.Proofs.YtobepdmpacdakaaGreat

/- Tables as maps: what is there behind a Set, behind a Drop; sums over tables; who is led to. No program's function. -/
namespace Go.Proofs.YtobepdmpacdakaaGreat

/-! ### Maps -/
theorem has_iff {l : List Nd} {i : Int} : hasN l i = true ↔ ∃ x ∈ l, x.ino = i := by simp [hasN]
theorem mem_set {l : List Nd} {x y : Nd} : y ∈ setN l x ↔ y = x ∨ (y ∈ l ∧ y.ino ≠ x.ino) := by
  simp only [setN, aheadN, behindN, List.mem_append, List.mem_cons, List.mem_filter, decide_eq_true_eq]
  constructor
  · rintro (h | h | h)
    · exact .inr ⟨h.1, by omega⟩
    · exact .inl h
    · exact .inr ⟨h.1, by omega⟩
  · rintro (h | ⟨h, h2⟩)
    · exact .inr (.inl h)
    · rcases Int.lt_or_lt_of_ne h2 with h3 | h3
      · exact .inl ⟨h, h3⟩
      · exact .inr (.inr ⟨h, h3⟩)
theorem mem_drop {l : List Nd} {i : Int} {y : Nd} : y ∈ dropN l i ↔ y ∈ l ∧ y.ino ≠ i := by
  simp only [dropN, aheadN, behindN, List.mem_append, List.mem_filter, decide_eq_true_eq]
  constructor
  · rintro (h | h)
    · exact ⟨h.1, by omega⟩
    · exact ⟨h.1, by omega⟩
  · rintro ⟨h, h2⟩
    rcases Int.lt_or_lt_of_ne h2 with h3 | h3
    · exact .inl ⟨h, h3⟩
    · exact .inr ⟨h, h3⟩
theorem bool_eq {a b : Bool} (h : a = true ↔ b = true) : a = b := by cases a <;> cases b <;> simp_all
theorem has_set (l : List Nd) (x : Nd) (i : Int) : hasN (setN l x) i = (decide (i = x.ino) || hasN l i) := by
  refine bool_eq ?_
  rw [has_iff, Bool.or_eq_true, decide_eq_true_eq, has_iff]
  constructor
  · rintro ⟨y, hy, rfl⟩
    rcases mem_set.1 hy with rfl | h
    · exact .inl rfl
    · exact .inr ⟨y, h.1, rfl⟩
  · rintro (rfl | ⟨y, hy, rfl⟩)
    · exact ⟨x, mem_set.2 (.inl rfl), rfl⟩
    · by_cases h : y.ino = x.ino
      · exact ⟨x, mem_set.2 (.inl rfl), h.symm⟩
      · exact ⟨y, mem_set.2 (.inr ⟨hy, h⟩), rfl⟩
theorem has_drop (l : List Nd) (j i : Int) : hasN (dropN l j) i = (decide (i ≠ j) && hasN l i) := by
  refine bool_eq ?_
  rw [has_iff, Bool.and_eq_true, decide_eq_true_eq, has_iff]
  constructor
  · rintro ⟨y, hy, rfl⟩
    have := mem_drop.1 hy
    exact ⟨this.2, y, this.1, rfl⟩
  · rintro ⟨h, y, hy, rfl⟩
    exact ⟨y, mem_drop.2 ⟨hy, h⟩, rfl⟩
theorem get_set {l : List Nd} (hs : riseP l) (x : Nd) (i : Int) : getN (setN l x) i = if i = x.ino then x else getN l i := by
  have hr := set_rise x hs
  by_cases h : i = x.ino
  · rw [if_pos h, h]; exact (getN_of hr (mem_set.2 (.inl rfl))).1
  · rw [if_neg h]
    cases hh : hasN l i
    · rw [getN_none hh, getN_none]
      rw [has_set, hh, decide_eq_false h]; rfl
    · have hm := get_mem hh
      have := (getN_of hr (mem_set.2 (.inr ⟨hm.1, by rw [hm.2]; exact h⟩))).1
      rwa [hm.2] at this
theorem get_set_eq {l : List Nd} (hs : riseP l) (x : Nd) : getN (setN l x) x.ino = x := by rw [get_set hs, if_pos rfl]
theorem get_set_ne {l : List Nd} (hs : riseP l) {x : Nd} {i : Int} (h : i ≠ x.ino) : getN (setN l x) i = getN l i := by rw [get_set hs, if_neg h]
theorem get_drop {l : List Nd} (hs : riseP l) (j i : Int) : getN (dropN l j) i = if i = j then zeroN else getN l i := by
  have hr := drop_rise j hs
  by_cases h : i = j
  · rw [if_pos h, getN_none]
    rw [has_drop, h]; simp
  · rw [if_neg h]
    cases hh : hasN l i
    · rw [getN_none hh, getN_none]
      rw [has_drop, hh]; simp
    · have hm := get_mem hh
      have := (getN_of hr (mem_drop.2 ⟨hm.1, by rw [hm.2]; exact h⟩)).1
      rwa [hm.2] at this
/-- Rising tables of the same inodes are the same. -/
theorem rise_ext : ∀ {a b : List Nd}, riseP a → riseP b → (∀ y, y ∈ a ↔ y ∈ b) → a = b
  | [], [], _, _, _ => rfl
  | [], y :: b, _, _, h => absurd ((h y).2 (by simp)) (by simp)
  | x :: a, [], _, _, h => absurd ((h x).1 (by simp)) (by simp)
  | x :: a, y :: b, ha, hb, h => by
    obtain ⟨ha1, ha2⟩ := List.pairwise_cons.1 ha
    obtain ⟨hb1, hb2⟩ := List.pairwise_cons.1 hb
    have e : x = y := by
      have h1 := (h x).1 (by simp)
      have h2 := (h y).2 (by simp)
      rcases List.mem_cons.1 h1 with h1 | h1
      · exact h1
      · rcases List.mem_cons.1 h2 with h2 | h2
        · exact h2.symm
        · have := hb1 x h1; have := ha1 y h2; omega
    subst e
    rw [rise_ext ha2 hb2 fun z => ?_]
    constructor
    · intro hz
      rcases List.mem_cons.1 ((h z).1 (by simp [hz])) with e | e
      · subst e; have := ha1 z hz; omega
      · exact e
    · intro hz
      rcases List.mem_cons.1 ((h z).2 (by simp [hz])) with e | e
      · subst e; have := hb1 z hz; omega
      · exact e
/-- The same by what is got. -/
theorem get_ext {a b : List Nd} (ha : riseP a) (hb : riseP b) (h1 : ∀ i, hasN a i = hasN b i) (h2 : ∀ i, hasN a i = true → getN a i = getN b i) : a = b := by
  refine rise_ext ha hb fun y => ⟨fun hy => ?_, fun hy => ?_⟩
  · have hg := getN_of ha hy
    have h3 := get_mem (l := b) (i := y.ino) (by rw [← h1]; exact hg.2)
    have h4 := h2 _ hg.2
    rw [hg.1] at h4
    rw [h4]; exact h3.1
  · have hg := getN_of hb hy
    have h0 : hasN a y.ino = true := by rw [h1]; exact hg.2
    have h3 := get_mem h0
    have h4 := h2 _ h0
    rw [hg.1] at h4
    rw [← h4]; exact h3.1

/-! ### Sums -/
def sumN (f : Nd → Nat) (l : List Nd) : Nat := (l.map f).sum
theorem sum_cons (f : Nd → Nat) (x : Nd) (l : List Nd) : sumN f (x :: l) = f x + sumN f l := by simp [sumN]
theorem sum_drop (f : Nd → Nat) (hz : f zeroN = 0) : ∀ {l : List Nd}, riseP l → ∀ i, sumN f (l.filter (fun e => e.ino != i)) + f (getN l i) = sumN f l
  | [], _, i => by simp [sumN, getN, hz]
  | x :: l, h, i => by
    obtain ⟨h1, h2⟩ := List.pairwise_cons.1 h
    have ih := sum_drop f hz h2 i
    by_cases hx : x.ino = i
    · have hg : getN (x :: l) i = x := by unfold getN; rw [List.find?_cons_of_pos (by simpa using hx)]; rfl
      have hn : getN l i = zeroN := getN_none (by
        unfold hasN; rw [List.any_eq_false]; intro y hy; have := h1 y hy; simp; omega)
      rw [hn, hz] at ih
      rw [List.filter_cons_of_neg (by simp [hx]), hg, sum_cons]; omega
    · have hg : getN (x :: l) i = getN l i := by unfold getN; rw [List.find?_cons_of_neg (by simpa using hx)]
      rw [List.filter_cons_of_pos (by simpa using hx), hg, sum_cons, sum_cons]; omega
theorem sum_perm (f : Nd → Nat) {a b : List Nd} (h : a.Perm b) : sumN f a = sumN f b := (h.map f).sum_nat
theorem sum_append (f : Nd → Nat) (a b : List Nd) : sumN f (a ++ b) = sumN f a + sumN f b := by simp [sumN]
theorem sum_set (f : Nd → Nat) (hz : f zeroN = 0) {l : List Nd} (hs : riseP l) (x : Nd) : sumN f (setN l x) + f (getN l x.ino) = sumN f l + f x := by
  rw [sum_perm f (set_perm x hs), sum_append]
  have := sum_drop f hz hs x.ino
  simp only [sumN, List.map_cons, List.map_nil, List.sum_cons, List.sum_nil] at this ⊢
  omega
theorem sum_dropN (f : Nd → Nat) (hz : f zeroN = 0) {l : List Nd} (hs : riseP l) (i : Int) : sumN f (dropN l i) + f (getN l i) = sumN f l := by
  rw [← dropN_eq l i hs]; exact sum_drop f hz hs i
def cntE (j : Int) (x : Nd) : Nat := (x.ents.map (·.2)).count j
theorem names_cnt (l : List Nd) (j : Int) : namesN l j = sumN (cntE j) l := names_sum l j
theorem names_set {l : List Nd} (hs : riseP l) (x : Nd) (j : Int) : namesN (setN l x) j + cntE j (getN l x.ino) = namesN l j + cntE j x := by rw [names_cnt, names_cnt]; exact sum_set _ rfl hs x
theorem names_drop {l : List Nd} (hs : riseP l) (i j : Int) : namesN (dropN l i) j + cntE j (getN l i) = namesN l j := by rw [names_cnt, names_cnt]; exact sum_dropN _ rfl hs i
theorem bytes_sum (l : List Nd) : bytesN l = sumN costN l := by
  induction l with
  | nil => rfl
  | cons x l ih => rw [sum_cons, ← ih]; rfl
theorem bytes_set {l : List Nd} (hs : riseP l) (x : Nd) : bytesN (setN l x) + costN (getN l x.ino) = bytesN l + costN x := by rw [bytes_sum, bytes_sum]; exact sum_set _ rfl hs x
theorem bytes_drop {l : List Nd} (hs : riseP l) (i : Int) : bytesN (dropN l i) + costN (getN l i) = bytesN l := by rw [bytes_sum, bytes_sum]; exact sum_dropN _ rfl hs i
theorem ents_set {l : List Nd} (hs : riseP l) (x : Nd) : entsN (setN l x) + (getN l x.ino).ents.length = entsN l + x.ents.length := sum_set (fun x => x.ents.length) rfl hs x
theorem ents_drop {l : List Nd} (hs : riseP l) (i : Int) : entsN (dropN l i) + (getN l i).ents.length = entsN l := sum_dropN (fun x => x.ents.length) rfl hs i
theorem len_split (p : Nd → Bool) (l : List Nd) : l.length = (l.filter p).length + (l.filter (fun e => !p e)).length := by
  induction l with
  | nil => rfl
  | cons x l ih =>
    rw [List.filter_cons, List.filter_cons]
    cases p x <;> simp <;> omega
theorem len_set_has {l : List Nd} (hs : riseP l) (x : Nd) (h : hasN l x.ino = true) : (setN l x).length = l.length := by
  have h1 := (set_perm x hs).length_eq
  have h2 := len_split (fun e => e.ino != x.ino) l
  have h3 : (l.filter (fun e => !(e.ino != x.ino))).length = 1 := by
    have hm := get_mem h
    have e : l.filter (fun e => !(e.ino != x.ino)) = [getN l x.ino] := by
      refine rise_ext (hs.filter _) (List.pairwise_singleton _ _) fun y => ?_
      rw [List.mem_filter, List.mem_singleton]
      constructor
      · rintro ⟨hy, h4⟩
        have h5 : y.ino = x.ino := by simpa using h4
        rw [← h5]; exact ((getN_of hs hy).1).symm
      · rintro rfl
        exact ⟨hm.1, by simp [hm.2]⟩
    rw [e]; rfl
  rw [List.length_append, List.length_singleton] at h1
  omega
theorem len_set_new {l : List Nd} (hs : riseP l) (x : Nd) (h : hasN l x.ino = false) : (setN l x).length = l.length + 1 := by
  have h1 := (set_perm x hs).length_eq
  rw [List.length_append, List.length_singleton, filt_not h] at h1
  exact h1
theorem len_drop_has {l : List Nd} (hs : riseP l) (i : Int) (h : hasN l i = true) : (dropN l i).length + 1 = l.length := by
  have hm := get_mem h
  have h1 := len_set_has hs (getN l i) (by rw [hm.2]; exact h)
  have h2 := (set_perm (getN l i) hs).length_eq
  rw [List.length_append, List.length_singleton, hm.2, dropN_eq l i hs] at h2
  omega

/-! ### Who is led to -/
inductive Reach (l : List Nd) : Int → Prop
  | root : Reach l 1
  | step {i : Int} {e : Ent} : Reach l i → e ∈ (getN l i).ents → Reach l e.2
theorem see_all (es : List Ent) : ∀ (s : List Int), (∀ i ∈ s, i ∈ seeB s es) ∧ ∀ e ∈ es, e.2 ∈ seeB s es := by
  induction es with
  | nil => intro s; exact ⟨fun _ h => h, fun _ h => nomatch h⟩
  | cons a r ih =>
    intro s
    have h1 := ih (if s.contains a.2 then s else s ++ [a.2])
    have ha : a.2 ∈ (if s.contains a.2 then s else s ++ [a.2]) := by
      split
      · rename_i h; simpa using h
      · simp
    refine ⟨fun i hi => h1.1 i ?_, fun e he => ?_⟩
    · split
      · exact hi
      · simp [hi]
    · rcases List.mem_cons.1 he with rfl | he
      · exact h1.1 _ ha
      · exact h1.2 e he
theorem bfs_prefix (l : List Nd) (k j : Nat) : bfsN l k <+: bfsN l (k + j) := by
  induction j with
  | zero => exact List.prefix_rfl
  | succ j ih =>
    refine ih.trans ?_
    rcases Nat.lt_or_ge (k + j) (bfsN l (k + j)).length with h | h
    · rw [← Nat.add_assoc, bfs_next h]; exact see_prefix _ _
    · rw [← Nat.add_assoc, show bfsN l (k + j + 1) = bfsN l (k + j) from bfs_stop h 1]; exact List.prefix_rfl
theorem bfs_reach (l : List Nd) (k : Nat) : ∀ i ∈ bfsN l k, Reach l i := by
  induction k with
  | zero => intro i hi; rw [List.mem_singleton.1 hi]; exact .root
  | succ k ih =>
    rcases Nat.lt_or_ge k (bfsN l k).length with h | h
    · rw [bfs_next h]
      exact see_has _ _ (Reach l) ih fun e he => .step (ih _ (List.getElem_mem h)) he
    · rw [show bfsN l (k + 1) = bfsN l k from bfs_stop h 1]; exact ih
theorem bfs_closed {l : List Nd} {m : Nat} (h : (bfsN l m).length ≤ m) {i : Int} (hi : i ∈ bfsN l m) {e : Ent} (he : e ∈ (getN l i).ents) : e.2 ∈ bfsN l m := by
  obtain ⟨k, hk, rfl⟩ := List.getElem_of_mem hi
  have hkm : k < m := by omega
  -- at round k the element k is there already
  have hlen : k < (bfsN l k).length := by
    refine Decidable.byContradiction fun hn => ?_
    have := bfs_stop (l := l) (k := k) (by omega) (m - k)
    rw [show k + (m - k) = m from by omega] at this
    rw [this] at hk; omega
  have hp := bfs_prefix l k (m - k)
  rw [show k + (m - k) = m from by omega] at hp
  have hg : (bfsN l k)[k] = (bfsN l m)[k] := hp.getElem hlen
  have h1 : e.2 ∈ bfsN l (k + 1) := by
    rw [bfs_next hlen, hg]; exact (see_all _ _).2 e he
  have hp2 := bfs_prefix l (k + 1) (m - (k + 1))
  rw [show k + 1 + (m - (k + 1)) = m from by omega] at hp2
  exact hp2.subset h1
theorem fifth_iff {l : List Nd} (hr : riseP l) (h1 : hasN l 1 = true) (h3 : thirdB l = true) : fifthB l = true ↔ ∀ x ∈ l, Reach l x.ino := by
  unfold fifthB
  rw [decide_eq_true_eq]
  constructor
  · intro h x hx
    have hin : x.ino ∈ bfsN l (l.length + 1) := by
      refine sub_eq (bfs_nodup _ _) (fun z hz => has_inos (bfs_has h3 h1 _ z hz)) (by rw [h]; simp) _ (has_inos (getN_of hr hx).2)
    exact bfs_reach _ _ _ hin
  · intro h
    have hle := bfs_len h3 h1 (l.length + 1)
    have hall : ∀ i, Reach l i → i ∈ bfsN l (l.length + 1) := by
      intro i hi
      induction hi with
      | root => exact (bfs_prefix l 0 (l.length + 1)).subset (by simp [bfsN]) |> fun h => by simpa using h
      | step _ he ih => exact bfs_closed (by omega) ih he
    have hnd : (l.map (·.ino)).Nodup := by
      rw [List.nodup_iff_pairwise_ne, List.pairwise_map]
      exact hr.imp fun h => by omega
    have := len_sub _ _ hnd (fun i hi => by
      obtain ⟨x, hx, rfl⟩ := List.mem_map.1 hi
      exact hall _ (h x hx))
    rw [List.length_map] at this
    omega
end Go.Proofs.YtobepdmpacdakaaGreat

/- The walk as a list of directories that it is in, each with the entries to which it hasn't come yet. No program's function. -/
namespace Go.Proofs.YtobepdmpacdakaaGreat
open Go.RowKit

theorem kids_stop {l : List Nd} {d : Nat} {i : Int} (h : lvN l (d + 1) [i] = []) : ∀ e ∈ (getN l i).ents, lvN l d [e.2] = [] := by
  intro e he
  rw [lv_in] at h
  have e2 : [i].flatMap (kidsN l) = kidsN l i := by simp
  rw [e2] at h
  have hm : e.2 ∈ kidsN l i := List.mem_map.2 ⟨e, he, rfl⟩
  have h1 := lv_perm (l := l) d (List.perm_cons_erase hm)
  rw [h] at h1
  have h2 := h1.nil_eq
  rw [show e.2 :: (kidsN l i).erase e.2 = [e.2] ++ (kidsN l i).erase e.2 from rfl, lv_append] at h2
  exact (List.append_eq_nil_iff.1 h2.symm).1
theorem tree_congr {l : List Nd} {a b : Nat} (es : List Ent) (ns : List (List UInt8)) (h : ∀ e ∈ es, ∀ ns, treeN l a e.2 ns = treeN l b e.2 ns) : es.flatMap (fun e => treeN l a e.2 (ns ++ [e.1])) = es.flatMap (fun e => treeN l b e.2 (ns ++ [e.1])) := by
  induction es with
  | nil => rfl
  | cons e r ih => rw [List.flatMap_cons, List.flatMap_cons, h e (by simp), ih fun x hx => h x (by simp [hx])]
theorem tree_stop {l : List Nd} (d : Nat) : ∀ i ns, lvN l d [i] = [] → treeN l (d + 1) i ns = treeN l d i ns := by
  induction d with
  | zero => intro i ns h; cases h
  | succ d ih =>
    intro i ns h
    have hk := kids_stop h
    show (if hasN l i = true then _ else _) = (if hasN l i = true then _ else _)
    split
    · congr 1
      exact tree_congr _ _ fun e he ns => ih e.2 ns (hk e he)
    · rfl
/-- The walk from an inode, by names. -/
def walkS (l : List Nd) (i : Int) (ns : List (List UInt8)) : List (List (List UInt8) × Int) := treeN l (l.length + 1) i ns
def kidsS (l : List Nd) (ns : List (List UInt8)) (es : List Ent) : List (List (List UInt8) × Int) := es.flatMap (fun e => walkS l e.2 (ns ++ [e.1]))
theorem walkS_eq {l : List Nd} (t : Tree l) {i : Int} (h : hasN l i = true) (ns : List (List UInt8)) : walkS l i ns = (ns, i) :: kidsS l ns (getN l i).ents := by
  unfold walkS kidsS
  show (if hasN l i = true then _ else _) = _
  rw [if_pos h]
  congr 1
  refine tree_congr _ _ fun e he ns => ?_
  exact (tree_stop _ _ _ (kids_stop (lv_end_any t h _ (Nat.lt_succ_self _)) e he)).symm
theorem walkS_no {l : List Nd} {i : Int} (h : hasN l i = false) (ns : List (List UInt8)) : walkS l i ns = [] := by
  unfold walkS
  show (if hasN l i = true then _ else _) = _
  rw [if_neg (by rw [h]; simp)]
theorem kidsS_cons (l : List Nd) (ns : List (List UInt8)) (e : Ent) (r : List Ent) : kidsS l ns (e :: r) = walkS l e.2 (ns ++ [e.1]) ++ kidsS l ns r := by unfold kidsS; rw [List.flatMap_cons]
theorem tree_deep (l : List Nd) (d : Nat) : ∀ i ns, ∀ q ∈ treeN l d i ns, q.1.length < ns.length + d := by
  induction d with
  | zero => intro i ns q hq; cases hq
  | succ d ih =>
    intro i ns q hq
    unfold treeN at hq
    split at hq
    · rcases List.mem_cons.1 hq with rfl | hq
      · show ns.length < _; omega
      · obtain ⟨e, _, he⟩ := List.mem_flatMap.1 hq
        have := ih _ _ q he
        rw [List.length_append, List.length_singleton] at this
        omega
    · cases hq
theorem tree_size {l : List Nd} (hs : ∀ x ∈ l, shortP 300 x.ents) (d : Nat) : ∀ i ns, ∀ q ∈ treeN l d i ns, (tailB q.1).length ≤ (tailB ns).length + d * 301 := by
  induction d with
  | zero => intro i ns q hq; cases hq
  | succ d ih =>
    intro i ns q hq
    unfold treeN at hq
    split at hq
    · rename_i hh
      rcases List.mem_cons.1 hq with rfl | hq
      · show (tailB ns).length ≤ _; omega
      · obtain ⟨e, he0, he⟩ := List.mem_flatMap.1 hq
        have := ih _ _ q he
        have hn := hs _ (get_mem hh).1 e he0
        rw [tailB_snoc, List.length_append, List.length_cons] at this
        omega
    · cases hq
theorem tree_has (l : List Nd) (d : Nat) : ∀ i ns, ∀ q ∈ treeN l d i ns, hasN l q.2 = true := by
  induction d with
  | zero => intro i ns q hq; cases hq
  | succ d ih =>
    intro i ns q hq
    unfold treeN at hq
    split at hq
    · rename_i hh
      rcases List.mem_cons.1 hq with rfl | hq
      · exact hh
      · obtain ⟨e, _, he⟩ := List.mem_flatMap.1 hq
        exact ih _ _ q he
    · cases hq

/-- A directory that the walk is in: its names, the entries to which it hasn't come yet. -/
structure Lv where
  ns : List (List UInt8)
  ev : Value
  es : List Ent
def lvV : List Lv → List Value
  | [] => []
  | x :: r => .int .i64 x.ns.length :: x.ev :: lvV r
theorem lvV_len (l : List Lv) : (lvV l).length = l.length * 2 := by
  induction l with
  | nil => rfl
  | cons e l ih => simp [lvV, ih]; omega
theorem lvV_append (a b : List Lv) : lvV (a ++ b) = lvV a ++ lvV b := by
  induction a with
  | nil => rfl
  | cons e l ih => simp [lvV, ih]
def remS (l : List Nd) (stk : List Lv) : List (List (List UInt8) × Int) := stk.reverse.flatMap (fun x => kidsS l x.ns x.es)
theorem remS_push (l : List Nd) (stk : List Lv) (x : Lv) : remS l (stk ++ [x]) = kidsS l x.ns x.es ++ remS l stk := by unfold remS; simp
theorem remS_nil (l : List Nd) : remS l [] = [] := rfl
end Go.Proofs.YtobepdmpacdakaaGreat

/- Up the tree: a directory's path, from behind. No program's function. -/
namespace Go.Proofs.YtobepdmpacdakaaGreat

theorem ents_has {l : List Nd} {i : Int} {e : Ent} (h : e ∈ (getN l i).ents) : hasN l i = true := by
  cases hh : hasN l i
  · rw [getN_none hh] at h; cases h
  · rfl
theorem pair_mem {l : List Nd} {d : Int} {e : Ent} (h : e ∈ (getN l d).ents) : (d, e) ∈ pairsN l := by
  have hm := get_mem (ents_has h)
  exact List.mem_flatMap.2 ⟨_, hm.1, List.mem_map.2 ⟨e, h, by rw [hm.2]⟩⟩
/-- Who is named once, is named there. -/
theorem in_of {l : List Nd} {i d : Int} {n : List UInt8} (h1 : namesN l i = 1) (he : (n, i) ∈ (getN l d).ents) : inN l i = d := by
  unfold namesN cntP at h1
  rw [List.countP_eq_length_filter] at h1
  obtain ⟨p, hp⟩ := List.length_eq_one_iff.1 h1
  have hm : (d, (n, i)) ∈ (pairsN l).filter (fun p => p.2.2 == i) := List.mem_filter.2 ⟨pair_mem he, by simp⟩
  unfold inN lastP
  rw [hp] at hm ⊢
  rw [← List.mem_singleton.1 hm]; rfl
theorem names_pos {l : List Nd} {d i : Int} {n : List UInt8} (h : (n, i) ∈ (getN l d).ents) : 0 < namesN l i := by
  unfold namesN cntP
  rw [List.countP_pos_iff]
  exact ⟨_, pair_mem h, by simp⟩

theorem le_sum {x : Nat} {l : List Nat} (h : x ∈ l) : x ≤ l.sum := by
  induction l with
  | nil => cases h
  | cons a r ih =>
    rw [List.sum_cons]
    rcases List.mem_cons.1 h with rfl | h
    · omega
    · have := ih h; omega
theorem once_ents {l : List Nd} {d i : Int} {n : List UInt8} (h1 : namesN l i = 1) (he : (n, i) ∈ (getN l d).ents) : (getN l d).ents.find? (fun e => e.2 == i) = some (n, i) := by
  have hm := get_mem (ents_has he)
  have hc : ((getN l d).ents.map (·.2)).count i ≤ 1 := by
    have h2 := names_sum l i
    rw [h1] at h2
    rw [h2]
    exact le_sum (List.mem_map.2 ⟨getN l d, hm.1, rfl⟩)
  generalize (getN l d).ents = es at *
  clear hm h1
  induction es with
  | nil => cases he
  | cons e r ih =>
    rw [List.find?_cons]
    cases hb : (e.2 == i)
    · rcases List.mem_cons.1 he with rfl | he
      · simp at hb
      · refine ih he ?_
        rw [List.map_cons, List.count_cons] at hc
        omega
    · rcases List.mem_cons.1 he with rfl | he
      · rfl
      · exfalso
        have hpos : 0 < (r.map (·.2)).count i := List.count_pos_iff.2 (List.mem_map.2 ⟨(n, i), he, rfl⟩)
        rw [List.map_cons, List.count_cons, if_pos hb] at hc
        omega
theorem walk_parent {l : List Nd} {q : List (List UInt8) × Int} (h : q ∈ walkS l 1 []) : q = ([], 1) ∨ Parent l (walkS l 1 []) q := by
  obtain ⟨A, B, hAB⟩ := List.append_of_mem h
  cases A with
  | nil => exact .inl (tree_head hAB)
  | cons a A => exact .inr ((tree_parent l _ 1 [] (a :: A) q B hAB (by simp)).mono fun x hx => by rw [hAB]; simp only [List.mem_append]; exact .inl hx)
/-- One step up. -/
theorem up_step {l : List Nd} (t : Tree l) {ns : List (List UInt8)} {i : Int} (h : (ns, i) ∈ walkS l 1 []) (hi : i ≠ 1) (hk : (getN l i).kind = 2) :
    ∃ pn nm, ns = pn ++ [nm] ∧ (pn, (getN l i).parent) ∈ walkS l 1 [] ∧ hasN l (getN l i).parent = true ∧ (getN l (getN l i).parent).kind = 2 ∧ (getN l (getN l i).parent).ents.find? (fun e => e.2 == i) = some (nm, i) := by
  have hh := tree_has l _ 1 [] _ h
  have hg := get_mem hh
  rcases walk_parent h with h1 | ⟨pn, nm, d, h1, h2, h3⟩
  · exact absurd (congrArg Prod.snd h1) hi
  · dsimp only at h1 h3
    have ho := t.once _ hg.1 hk (by rw [hg.2]; exact hi)
    rw [hg.2] at ho
    have hp := t.parent _ hg.1 hk (by rw [hg.2]; exact hi)
    rw [hg.2, in_of ho h3] at hp
    rw [hp]
    have hd := ents_has h3
    refine ⟨pn, nm, h1, h2, hd, ?_, once_ents ho h3⟩
    refine Decidable.byContradiction fun hn => ?_
    rw [t.files _ (get_mem hd).1 hn] at h3
    cases h3
theorem up_root {l : List Nd} (t : Tree l) {ns : List (List UInt8)} (h : (ns, 1) ∈ walkS l 1 []) : ns = [] := by
  rcases walk_parent h with h1 | ⟨pn, nm, d, h1, h2, h3⟩
  · exact congrArg Prod.fst h1
  · have := names_pos h3
    rw [t.noRoot] at this
    omega
theorem walk_list {l : List Nd} (t : Tree l) : listN l = (walkS l 1 []).map (fun q => (joinB q.1, q.2)) := below_tree t _ 1 [] (fun n hn => nomatch hn)
/-- A directory's one path. -/
theorem dir_total {l : List Nd} (t : Tree l) {i : Int} (h : isDir l i = true) : ∃ ns, (ns, i) ∈ walkS l 1 [] ∧ pathsN l i = [joinB ns] := by
  obtain ⟨p, hp⟩ := List.length_eq_one_iff.1 (dir_path t h)
  have hm : p ∈ pathsN l i := by rw [hp]; simp
  unfold pathsN at hm
  obtain ⟨q, hq, rfl⟩ := List.mem_map.1 hm
  obtain ⟨hq1, hq2⟩ := List.mem_filter.1 hq
  rw [walk_list t] at hq1
  obtain ⟨r, hr, rfl⟩ := List.mem_map.1 hq1
  obtain ⟨ns, j⟩ := r
  obtain rfl : j = i := by simpa using hq2
  exact ⟨ns, hr, hp⟩
end Go.Proofs.YtobepdmpacdakaaGreat

/- Soundness as what holds of each inode; a leaf put in. No program's function. -/
namespace Go.Proofs.YtobepdmpacdakaaGreat

structure SoundP (mi mb nx : Int) (l : List Nd) : Prop where
  lim : limB mi mb nx = true
  ino : ∀ x ∈ l, 1 ≤ x.ino ∧ x.ino < nx
  rise : riseP l
  root : hasN l 1 = true
  rootDir : (getN l 1).kind = 2
  kind : ∀ x ∈ l, secondX x = true
  there : ∀ x ∈ l, ∀ e ∈ x.ents, hasN l e.2 = true
  links : ∀ x ∈ l, x.links = (namesN l x.ino : Int)
  noRoot : namesN l 1 = 0
  rootPar : (getN l 1).parent = 1
  named : ∀ x ∈ l, x.ino ≠ 1 → 1 ≤ namesN l x.ino
  once : ∀ x ∈ l, x.kind = 2 → x.ino ≠ 1 → namesN l x.ino = 1 ∧ ∃ n, (n, x.ino) ∈ (getN l x.parent).ents
  reach : ∀ x ∈ l, Reach l x.ino
  fits : fitsB mi mb l 0 0 = true
theorem named_by {l : List Nd} (hr : riseP l) {i : Int} (h : 0 < namesN l i) : ∃ d n, (n, i) ∈ (getN l d).ents := by
  unfold namesN cntP at h
  rw [List.countP_pos_iff] at h
  obtain ⟨p, hp, h2⟩ := h
  obtain ⟨x, hx, hx2⟩ := List.mem_flatMap.1 hp
  obtain ⟨e, he, rfl⟩ := List.mem_map.1 hx2
  have hg := (getN_of hr hx).1
  have : e.2 = i := by simpa using h2
  exact ⟨x.ino, e.1, by rw [hg, ← this]; exact he⟩
theorem check_zero {mi mb nx : Int} {l : List Nd} : checkN mi mb nx l = 0 ↔ firstB mi mb nx l = true ∧ secondB l = true ∧ thirdB l = true ∧ fourthB l = true ∧ fifthB l = true ∧ fitsB mi mb l 0 0 = true := by
  unfold checkN
  cases firstB mi mb nx l
  · simp
  cases secondB l
  · simp
  cases thirdB l
  · simp
  cases fourthB l
  · simp
  cases fifthB l
  · simp
  cases fitsB mi mb l 0 0
  · simp
  · simp
theorem sound_of {mi mb nx : Int} {l : List Nd} (h : checkN mi mb nx l = 0) : SoundP mi mb nx l := by
  obtain ⟨h1, h2, h3, h4, h5, h6⟩ := check_zero.1 h
  have hf := h1
  simp only [firstB, rootB, Bool.and_eq_true, beq_iff_eq] at hf
  have hr := (riseN_iff l).1 hf.2.1.1
  have h4' := fun x hx => List.all_eq_true.1 h4 x hx
  have hroot := get_mem hf.2.1.2
  have hr4 : namesN l 1 = 0 ∧ (getN l 1).parent = 1 := by
    have := h4' _ hroot.1
    unfold fourthX at this
    rw [hroot.2, if_pos rfl] at this
    simp only [Bool.and_eq_true, decide_eq_true_eq] at this
    exact this.2
  have h4n : ∀ x ∈ l, x.ino ≠ 1 → 1 ≤ namesN l x.ino ∧ (x.kind = 2 → namesN l x.ino = 1 ∧ x.parent = inN l x.ino) := by
    intro x hx hi
    have := h4' _ hx
    unfold fourthX at this
    rw [if_neg hi] at this
    simp only [Bool.and_eq_true, decide_eq_true_eq] at this
    refine ⟨this.2.1, fun hk => ?_⟩
    have h5 := this.2.2
    rw [if_pos hk] at h5
    simpa using h5
  refine ⟨hf.1.1, ?_, hr, hf.2.1.2, hf.2.2, fun x hx => List.all_eq_true.1 h2 x hx, fun x hx e he => List.all_eq_true.1 (List.all_eq_true.1 h3 x hx) e he, ?_, hr4.1, hr4.2, fun x hx hi => (h4n x hx hi).1, ?_, (fifth_iff hr hf.2.1.2 h3).1 h5, h6⟩
  · intro x hx
    have := List.all_eq_true.1 hf.1.2 x hx
    unfold inoB at this
    rwa [Bool.and_eq_true, decide_eq_true_eq, decide_eq_true_eq] at this
  · intro x hx
    have := h4' _ hx
    unfold fourthX at this
    rw [Bool.and_eq_true, decide_eq_true_eq] at this
    exact this.1
  · intro x hx hk hi
    obtain ⟨h7, h8⟩ := (h4n x hx hi).2 hk
    refine ⟨h7, ?_⟩
    obtain ⟨d, n, hd⟩ := named_by hr (show 0 < namesN l x.ino by omega)
    rw [h8, in_of h7 hd]
    exact ⟨n, hd⟩
theorem sound_check {mi mb nx : Int} {l : List Nd} (h : SoundP mi mb nx l) : checkN mi mb nx l = 0 := by
  have h3 : thirdB l = true := List.all_eq_true.2 fun x hx => List.all_eq_true.2 fun e he => h.there x hx e he
  refine check_zero.2 ⟨?_, List.all_eq_true.2 h.kind, h3, ?_, (fifth_iff h.rise h.root h3).2 h.reach, h.fits⟩
  · simp only [firstB, rootB, Bool.and_eq_true, beq_iff_eq]
    refine ⟨⟨h.lim, List.all_eq_true.2 fun x hx => ?_⟩, ⟨(riseN_iff l).2 h.rise, h.root⟩, h.rootDir⟩
    unfold inoB
    rw [Bool.and_eq_true, decide_eq_true_eq, decide_eq_true_eq]
    exact h.ino x hx
  · refine List.all_eq_true.2 fun x hx => ?_
    unfold fourthX
    rw [Bool.and_eq_true, decide_eq_true_eq]
    refine ⟨h.links x hx, ?_⟩
    by_cases hi : x.ino = 1
    · rw [if_pos hi, Bool.and_eq_true, decide_eq_true_eq, decide_eq_true_eq, hi]
      refine ⟨h.noRoot, ?_⟩
      have := (getN_of h.rise hx).1
      rw [hi] at this
      rw [← this]; exact h.rootPar
    · rw [if_neg hi, Bool.and_eq_true, decide_eq_true_eq]
      refine ⟨h.named x hx hi, ?_⟩
      by_cases hk : x.kind = 2
      · rw [if_pos hk, Bool.and_eq_true, decide_eq_true_eq, decide_eq_true_eq]
        obtain ⟨h7, n, hn⟩ := h.once x hx hk hi
        exact ⟨h7, (in_of h7 hn).symm⟩
      · rw [if_neg hk]
theorem ok_sound {mi mb nx : Int} {l : List Nd} (h : okB mi mb nx l = true) : SoundP mi mb nx l := by
  unfold okB at h
  rw [Bool.and_eq_true, decide_eq_true_eq] at h
  exact sound_of h.2
theorem SoundP.tree {mi mb nx : Int} {l : List Nd} (h : SoundP mi mb nx l) : Tree l := by
  have h2 : ∀ x ∈ l, x.kind ≠ 2 → x.ents = [] := by
    intro x hx hk
    have := h.kind x hx
    unfold secondX at this
    rw [if_neg hk] at this
    split at this
    · simp only [Bool.and_eq_true, List.isEmpty_iff] at this; exact this.1
    · split at this
      · simp only [Bool.and_eq_true, List.isEmpty_iff] at this; exact this.1.1.1.1
      · cases this
  have h3 : thirdB l = true := List.all_eq_true.2 fun x hx => List.all_eq_true.2 fun e he => h.there x hx e he
  refine ⟨h.rise, h.root, h.rootDir, h2, ?_, h.there, h.noRoot, fun x hx hk hi => (h.once x hx hk hi).1, ?_, by simpa [fifthB] using (fifth_iff h.rise h.root h3).2 h.reach⟩
  · intro x hx hk
    have := h.kind x hx
    unfold secondX at this
    rw [if_pos hk, Bool.and_eq_true] at this
    exact this.2
  · intro x hx hk hi
    obtain ⟨h7, n, hn⟩ := h.once x hx hk hi
    exact (in_of h7 hn).symm

/-! ### Entries -/
theorem mem_with {es : List Ent} {n : List UInt8} {i : Int} {e : Ent} : e ∈ withB es n i ↔ e = (n, i) ∨ (e ∈ es ∧ e.1 ≠ n) := by
  simp only [withB, aheadB, behindB, List.mem_append, List.mem_cons, List.mem_filter]
  constructor
  · rintro (h | h | h)
    · exact .inr ⟨h.1, lt_ne h.2⟩
    · exact .inl h
    · exact .inr ⟨h.1, (lt_ne h.2).symm⟩
  · rintro (h | ⟨h, h2⟩)
    · exact .inr (.inl h)
    · cases h3 : ltB e.1 n
      · cases h4 : ltB n e.1
        · exact absurd (lt_tri _ _ h3 h4) h2
        · exact .inr (.inr ⟨h, rfl⟩)
      · exact .inl ⟨h, rfl⟩
theorem mem_without {es : List Ent} {n : List UInt8} {e : Ent} : e ∈ withoutB es n ↔ e ∈ es ∧ e.1 ≠ n := by
  simp only [withoutB, aheadB, behindB, List.mem_append, List.mem_filter]
  constructor
  · rintro (h | h)
    · exact ⟨h.1, lt_ne h.2⟩
    · exact ⟨h.1, (lt_ne h.2).symm⟩
  · rintro ⟨h, h2⟩
    cases h3 : ltB e.1 n
    · cases h4 : ltB n e.1
      · exact absurd (lt_tri _ _ h3 h4) h2
      · exact .inr ⟨h, rfl⟩
    · exact .inl ⟨h, rfl⟩
theorem with_perm (es : List Ent) (n : List UInt8) (i : Int) : (withB es n i).Perm ((n, i) :: withoutB es n) := by
  unfold withB withoutB
  exact List.perm_middle
theorem without_none {es : List Ent} {n : List UInt8} (hs : sortP es) (h : hasB es n = false) : withoutB es n = es := by
  rw [← without_eq n hs]
  refine filter_all fun e he => ?_
  have := (List.any_eq_false.1 h) e he
  simpa [bne] using this
theorem without_perm {es : List Ent} {n : List UInt8} {i : Int} (hs : sortP es) (h : (n, i) ∈ es) : es.Perm ((n, i) :: withoutB es n) := by
  have hp : es.Pairwise (fun a b => a.1 ≠ b.1) := hs.imp fun h => lt_ne h
  have h1 : withB (withoutB es n) n i = es := by
    have h2 : sortP (withB (withoutB es n) n i) := with_sort n i (without_sort n hs)
    refine List.Perm.eq_of_pairwise (le := fun a b => ltB a.1 b.1 = true ∨ a = b) ?_ ?_ ?_ ?_
    · intro a b _ _ h3 h4
      rcases h3 with h3 | h3
      · rcases h4 with h4 | h4
        · rw [lt_asym h3] at h4; cases h4
        · exact h4.symm
      · exact h3
    · exact h2.imp fun h => .inl h
    · exact hs.imp fun h => .inl h
    · refine (List.perm_ext_iff_of_nodup ?_ ?_).2 fun e => ?_
      · exact (h2.imp (S := fun a b : Ent => a ≠ b) fun h e => by rw [e, lt_irrefl] at h; cases h)
      · exact (hs.imp (S := fun a b : Ent => a ≠ b) fun h e => by rw [e, lt_irrefl] at h; cases h)
      · rw [mem_with, mem_without]
        constructor
        · rintro (rfl | h3)
          · exact h
          · exact h3.1.1
        · intro he
          by_cases h3 : e.1 = n
          · left
            have e1 := (num_mem hp he).1
            have e2 := (num_mem hp h).1
            rw [h3] at e1
            exact Prod.ext h3 (e1.symm.trans e2)
          · exact .inr ⟨⟨he, h3⟩, h3⟩
  have h2 := with_perm (withoutB es n) n i
  rw [h1, without_none (without_sort n hs) (by
    unfold hasB; rw [List.any_eq_false]; intro e he; simpa using (mem_without.1 he).2)] at h2
  exact h2
theorem num_with {es : List Ent} (hs : sortP es) (n : List UInt8) (i : Int) (m : List UInt8) : numB (withB es n i) m = (if m = n then i else numB es m) ∧ hasB (withB es n i) m = (decide (m = n) || hasB es m) := by
  have hp := fun {es : List Ent} (h : sortP es) => (h.imp (S := fun a b : Ent => a.1 ≠ b.1) fun h => lt_ne h)
  have hw := hp (with_sort n i hs)
  by_cases hm : m = n
  · have := num_mem hw (mem_with.2 (.inl rfl) : ((n, i) : Ent) ∈ _)
    rw [hm, if_pos rfl]
    exact ⟨this.1, by rw [this.2]; simp⟩
  · rw [if_neg hm, decide_eq_false hm, Bool.false_or]
    cases hh : hasB es m
    · have h2 : hasB (withB es n i) m = false := by
        unfold hasB; rw [List.any_eq_false]
        intro e he
        rcases mem_with.1 he with rfl | h3
        · simpa using fun h => hm h.symm
        · exact (List.any_eq_false.1 hh) e h3.1
      exact ⟨by rw [(find_none h2).1, (find_none hh).1], h2⟩
    · have h3 := hh
      unfold hasB at h3
      rw [List.any_eq_true] at h3
      obtain ⟨e, he, h4⟩ := h3
      have h5 : e.1 = m := by simpa using h4
      have a1 := num_mem (hp hs) he
      have a2 := num_mem hw (mem_with.2 (.inr ⟨he, by rw [h5]; exact hm⟩))
      rw [h5] at a1 a2
      exact ⟨a2.1.trans a1.1.symm, a2.2⟩
theorem num_without {es : List Ent} (hs : sortP es) (n m : List UInt8) : numB (withoutB es n) m = (if m = n then 0 else numB es m) ∧ hasB (withoutB es n) m = (decide (m ≠ n) && hasB es m) := by
  have hp := fun {es : List Ent} (h : sortP es) => (h.imp (S := fun a b : Ent => a.1 ≠ b.1) fun h => lt_ne h)
  have hw := hp (without_sort n hs)
  by_cases hm : m = n
  · rw [hm, if_pos rfl]
    have h2 : hasB (withoutB es n) n = false := by
      unfold hasB; rw [List.any_eq_false]; intro e he; simpa using (mem_without.1 he).2
    exact ⟨(find_none h2).1, by rw [h2]; simp⟩
  · rw [if_neg hm, decide_eq_true hm, Bool.true_and]
    cases hh : hasB es m
    · have h2 : hasB (withoutB es n) m = false := by
        unfold hasB; rw [List.any_eq_false]
        intro e he
        exact (List.any_eq_false.1 hh) e (mem_without.1 he).1
      exact ⟨by rw [(find_none h2).1, (find_none hh).1], h2⟩
    · have h3 := hh
      unfold hasB at h3
      rw [List.any_eq_true] at h3
      obtain ⟨e, he, h4⟩ := h3
      have h5 : e.1 = m := by simpa using h4
      have a1 := num_mem (hp hs) he
      have a2 := num_mem hw (mem_without.2 ⟨he, by rw [h5]; exact hm⟩)
      rw [h5] at a1 a2
      exact ⟨a2.1.trans a1.1.symm, a2.2⟩
end Go.Proofs.YtobepdmpacdakaaGreat

/- A leaf put into a sound file system: it stays sound. No program's function. -/
namespace Go.Proofs.YtobepdmpacdakaaGreat

/-- A directory with one entry more. -/
def moreD (x : Nd) (n : List UInt8) (i : Int) (ev : Go.Value) : Nd := { x with ents := withB x.ents n i, ev := ev }
def newL (l : List Nd) (d : Int) (n : List UInt8) (ev : Go.Value) (x : Nd) : List Nd := setN (setN l (moreD (getN l d) n x.ino ev)) x
/-- What the place and the leaf must be. -/
structure Leaf (l : List Nd) (nx : Int) (d : Int) (n : List UInt8) (x : Nd) : Prop where
  dir : isDir l d = true
  gone : hasB (getN l d).ents n = false
  may : mayB n = true
  ino : x.ino = nx
  links : x.links = 1
  ents : x.ents = []
  kind : secondX x = true
  par : x.kind = 2 → x.parent = d
theorem more_cnt {x : Nd} {n : List UInt8} {i : Int} {ev : Go.Value} (hs : sortP x.ents) (h : hasB x.ents n = false) (j : Int) : cntE j (moreD x n i ev) = cntE j x + if i = j then 1 else 0 := by
  unfold cntE moreD
  have := ((with_perm x.ents n i).map (·.2)).count_eq j
  rw [show ({ x with ents := withB x.ents n i, ev := ev } : Nd).ents = withB x.ents n i from rfl, this, without_none hs h, List.map_cons, List.count_cons]
  by_cases hij : i = j
  · rw [if_pos hij, if_pos (by simpa using hij)]
  · rw [if_neg hij, if_neg (by simpa using hij)]
theorem fresh {mi mb nx : Int} {l : List Nd} (h : SoundP mi mb nx l) : hasN l nx = false := by
  cases hh : hasN l nx
  · rfl
  · have hm := get_mem hh
    have := (h.ino _ hm.1).2
    rw [hm.2] at this; omega
theorem dir_sort {mi mb nx : Int} {l : List Nd} (h : SoundP mi mb nx l) (i : Int) : sortP (getN l i).ents := by
  cases hh : hasN l i
  · rw [getN_none hh]; exact List.Pairwise.nil
  · have hm := (get_mem hh).1
    by_cases hk : (getN l i).kind = 2
    · exact ((rightB_iff _).1 (h.tree.rights _ hm hk)).2
    · rw [h.tree.files _ hm hk]; exact List.Pairwise.nil
section
variable {mi mb nx : Int} {l : List Nd} {d : Int} {n : List UInt8} {ev : Go.Value} {x : Nd}
theorem more_ino (l : List Nd) (hd : hasN l d = true) (i : Int) : (moreD (getN l d) n i ev).ino = d := (get_mem hd).2
theorem new_get (h : SoundP mi mb nx l) (hl : Leaf l nx d n x) (i : Int) : getN (newL l d n ev x) i = if i = nx then x else if i = d then moreD (getN l d) n nx ev else getN l i := by
  have hd := (dir_parts hl.dir).1
  unfold newL
  rw [get_set (set_rise _ h.rise), get_set h.rise, more_ino l hd, hl.ino]
theorem new_has (h : SoundP mi mb nx l) (hl : Leaf l nx d n x) (i : Int) : hasN (newL l d n ev x) i = (decide (i = nx) || hasN l i) := by
  have hd := (dir_parts hl.dir).1
  unfold newL
  rw [has_set, has_set, more_ino l hd, hl.ino]
  by_cases h1 : i = d
  · rw [h1, hd]; simp
  · rw [decide_eq_false h1, Bool.false_or]
theorem new_rise (h : SoundP mi mb nx l) : riseP (newL l d n ev x) := set_rise _ (set_rise _ h.rise)
theorem dir_fresh (h : SoundP mi mb nx l) (hl : Leaf l nx d n x) : d ≠ nx := by
  intro e
  have := (dir_parts hl.dir).1
  rw [e, fresh h] at this; cases this
theorem new_names (h : SoundP mi mb nx l) (hl : Leaf l nx d n x) (j : Int) : namesN (newL l d n ev x) j = namesN l j + if nx = j then 1 else 0 := by
  have hd := (dir_parts hl.dir).1
  have h1 := names_set (set_rise (moreD (getN l d) n x.ino ev) h.rise) x j
  have h2 := names_set h.rise (moreD (getN l d) n x.ino ev) j
  rw [get_set h.rise, more_ino l hd, hl.ino, if_neg (fun e => dir_fresh h hl e.symm), getN_none (fresh h)] at h1
  rw [more_ino l hd, more_cnt (dir_sort h d) hl.gone, hl.ino] at h2
  have h3 : cntE j x = 0 := by unfold cntE; rw [hl.ents]; rfl
  have h4 : cntE j zeroN = 0 := rfl
  unfold newL
  rw [hl.ino]
  omega
theorem names_fresh (h : SoundP mi mb nx l) : namesN l nx = 0 := by
  refine Decidable.byContradiction fun hn => ?_
  obtain ⟨d, n, hd⟩ := named_by h.rise (show 0 < namesN l nx by omega)
  have := h.there _ (get_mem (ents_has hd)).1 _ hd
  rw [fresh h] at this; cases this
theorem new_mem (h : SoundP mi mb nx l) (hl : Leaf l nx d n x) {y : Nd} (hy : y ∈ newL l d n ev x) : y = x ∨ y = moreD (getN l d) n nx ev ∨ (y ∈ l ∧ y.ino ≠ d ∧ y.ino ≠ nx) := by
  have hd := (dir_parts hl.dir).1
  unfold newL at hy
  rw [hl.ino] at hy
  rcases mem_set.1 hy with e | ⟨hy, h1⟩
  · exact .inl e
  · rcases mem_set.1 hy with e | ⟨hy, h2⟩
    · exact .inr (.inl e)
    · rw [more_ino l hd] at h2
      rw [hl.ino] at h1
      exact .inr (.inr ⟨hy, h2, h1⟩)
theorem new_reach (h : SoundP mi mb nx l) (hl : Leaf l nx d n x) {i : Int} (hi : Reach l i) : Reach (newL l d n ev x) i := by
  induction hi with
  | root => exact .root
  | step _ he ih =>
    rename_i i e _
    refine .step ih ?_
    rw [new_get h hl]
    have hh := ents_has he
    rw [if_neg (by intro e2; rw [e2, fresh h] at hh; cases hh)]
    split
    · rename_i e2
      rw [e2] at he
      refine mem_with.2 (.inr ⟨he, fun e3 => ?_⟩)
      have := hl.gone
      unfold hasB at this
      rw [List.any_eq_false] at this
      exact this e he (by simpa using e3)
    · exact he
theorem new_sound (h : SoundP mi mb nx l) (hl : Leaf l nx d n x) (hn : nx < 1099511627776) (hf : fitsB mi mb l 1 (costN x) = true) : SoundP mi mb (nx + 1) (newL l d n ev x) := by
  obtain ⟨hd, hk⟩ := dir_parts hl.dir
  have hdm := get_mem hd
  have hroot := get_mem h.root
  have hfr := fresh h
  have h1n : (1 : Int) ≠ nx := by intro e; rw [← e, h.root] at hfr; cases hfr
  have hdn := dir_fresh h hl
  have hposn : 0 < nx := by have := (h.ino _ hroot.1); rw [hroot.2] at this; omega
  have hnm := fun j => new_names (ev := ev) h hl j
  have hget := fun i => new_get (ev := ev) h hl i
  have hhas := fun i => new_has (ev := ev) h hl i
  have hold : ∀ y, y ∈ l → y.ino ≠ nx := fun y hy e => by have := (h.ino y hy).2; omega
  have hkeep : ∀ {i : Int} {e : Ent}, e ∈ (getN l i).ents → e ∈ (getN (newL l d n ev x) i).ents := by
    intro i e he
    have hh := ents_has he
    rw [hget, if_neg (by intro e2; rw [e2, hfr] at hh; cases hh)]
    split
    · rename_i e2
      rw [e2] at he
      refine mem_with.2 (.inr ⟨he, fun e3 => ?_⟩)
      have := hl.gone
      unfold hasB at this
      rw [List.any_eq_false] at this
      exact this e he (by simpa using e3)
    · exact he
  have hroot1 : getN (newL l d n ev x) 1 = if 1 = d then moreD (getN l d) n nx ev else getN l 1 := by rw [hget, if_neg h1n]
  refine ⟨?_, ?_, new_rise h, by rw [hhas, h.root]; simp, ?_, ?_, ?_, ?_, by rw [hnm, h.noRoot, if_neg (fun e => h1n e.symm)], ?_, ?_, ?_, ?_, ?_⟩
  · have := h.lim
    unfold limB at this ⊢
    simp only [Bool.and_eq_true, decide_eq_true_eq] at this ⊢
    omega
  · intro y hy
    rcases new_mem h hl hy with rfl | rfl | hy
    · rw [hl.ino]; omega
    · have := h.ino _ hdm.1
      show 1 ≤ (getN l d).ino ∧ (getN l d).ino < nx + 1
      omega
    · have := h.ino _ hy.1; omega
  · rw [hroot1]
    split
    · exact hk
    · exact h.rootDir
  · intro y hy
    rcases new_mem h hl hy with rfl | rfl | hy
    · exact hl.kind
    · have := h.kind _ hdm.1
      unfold secondX at this ⊢
      rw [if_pos hk, Bool.and_eq_true] at this
      rw [if_pos (show (moreD (getN l d) n nx ev).kind = 2 from hk), Bool.and_eq_true]
      exact ⟨this.1, (rightB_iff _).2 (with_right ((rightB_iff _).1 this.2) (by unfold goodE; rw [hl.may, decide_eq_true hposn]; rfl))⟩
    · exact h.kind y hy.1
  · intro y hy e he
    rw [hhas]
    rcases new_mem h hl hy with rfl | rfl | hy
    · rw [hl.ents] at he; cases he
    · rcases mem_with.1 he with rfl | he
      · simp
      · rw [h.there _ hdm.1 e he.1]; simp
    · rw [h.there _ hy.1 e he]; simp
  · intro y hy
    rw [hnm]
    rcases new_mem h hl hy with rfl | rfl | hy
    · rw [hl.links, hl.ino, if_pos rfl, names_fresh h]; rfl
    · rw [if_neg (by show nx ≠ (getN l d).ino; rw [hdm.2]; exact fun e => hdn e.symm)]
      exact h.links (getN l d) hdm.1
    · rw [if_neg (fun e => hy.2.2 e.symm)]
      exact h.links _ hy.1
  · rw [hroot1]
    split
    · rename_i e
      show (getN l d).parent = 1
      rw [← e]; exact h.rootPar
    · exact h.rootPar
  · intro y hy hi
    rw [hnm]
    rcases new_mem h hl hy with rfl | rfl | hy
    · rw [hl.ino, if_pos rfl]; omega
    · have := h.named _ hdm.1 hi
      show 1 ≤ namesN l (getN l d).ino + _
      omega
    · have := h.named _ hy.1 hi; omega
  · intro y hy hky hi
    rw [hnm]
    rcases new_mem h hl hy with rfl | rfl | hy
    · rw [hl.ino, if_pos rfl, names_fresh h]
      refine ⟨rfl, n, ?_⟩
      rw [hl.par hky, hget, if_neg hdn, if_pos rfl]
      exact mem_with.2 (.inl rfl)
    · obtain ⟨h7, m, hm⟩ := h.once _ hdm.1 hk hi
      rw [if_neg (by show nx ≠ (getN l d).ino; rw [hdm.2]; exact fun e => hdn e.symm)]
      exact ⟨h7, m, hkeep hm⟩
    · obtain ⟨h7, m, hm⟩ := h.once _ hy.1 hky hi
      rw [if_neg (fun e => hy.2.2 e.symm)]
      exact ⟨h7, m, hkeep hm⟩
  · intro y hy
    rcases new_mem h hl hy with rfl | rfl | hy
    · have h8 : Reach (newL l d n ev y) d := new_reach h hl (by have := h.reach _ hdm.1; rwa [hdm.2] at this)
      have : ((n, nx) : Ent) ∈ (getN (newL l d n ev y) d).ents := by rw [hget, if_neg hdn, if_pos rfl]; exact mem_with.2 (.inl rfl)
      rw [hl.ino]
      exact .step h8 this
    · exact new_reach h hl (h.reach (getN l d) hdm.1)
    · exact new_reach h hl (h.reach _ hy.1)
  · unfold fitsB at hf ⊢
    simp only [Bool.and_eq_true, decide_eq_true_eq] at hf ⊢
    have h9 : (newL l d n ev x).length = l.length + 1 := by
      unfold newL
      rw [len_set_new (set_rise _ h.rise), len_set_has h.rise]
      · rw [more_ino l hd]; exact hd
      · rw [has_set, more_ino l hd, hl.ino, hfr, decide_eq_false (fun e => hdn e.symm)]; rfl
    have h10 : bytesN (newL l d n ev x) = bytesN l + costN x := by
      have a1 := bytes_set (set_rise (moreD (getN l d) n x.ino ev) h.rise) x
      have a2 := bytes_set h.rise (moreD (getN l d) n x.ino ev)
      rw [get_set h.rise, more_ino l hd, hl.ino, if_neg (fun e => hdn e.symm), getN_none hfr] at a1
      rw [more_ino l hd] at a2
      have a3 : costN (moreD (getN l d) n x.ino ev) = costN (getN l d) := rfl
      have a4 : costN zeroN = 0 := rfl
      unfold newL
      rw [hl.ino] at a2 a3 ⊢
      omega
    rw [h9, h10]
    omega
end
end Go.Proofs.YtobepdmpacdakaaGreat

/- What a path leads to in a sound file system; where it leads when a leaf was put in there. No program's function. -/
namespace Go.Proofs.YtobepdmpacdakaaGreat

theorem has_num {l : List Nd} (t : Tree l) {i : Int} {n : List UInt8} (h : hasB (getN l i).ents n = true) : (n, numB (getN l i).ents n) ∈ (getN l i).ents ∧ numB (getN l i).ents n ≠ 0 := by
  unfold hasB at h
  rw [List.any_eq_true] at h
  obtain ⟨e, he, h2⟩ := h
  have e1 : e.1 = n := by simpa using h2
  have e2 := (num_mem (ents_pair t i) he).1
  have e3 := ent_pos t e he
  rw [e1] at e2
  rw [e2]
  refine ⟨?_, by omega⟩
  rw [← e1]; exact he
/-- A place to which a path led. -/
structure Spot (l : List Nd) (s : Sp) : Prop where
  bare : s.name = [] → isDir l s.ino = true ∧ s.dir = 0
  entry : s.name ≠ [] → isDir l s.dir = true ∧ numB (getN l s.dir).ents s.name = s.ino ∧ hasB (getN l s.dir).ents s.name = decide (s.ino ≠ 0)
def Led (l : List Nd) (r : Sp × Int) : Prop := (r.2 = 0 → Spot l r.1) ∧ (r.2 ≠ 0 → r.1 = zeroS)
theorem led_bad {l : List Nd} {e : Int} (h : e ≠ 0) : Led l (zeroS, e) := ⟨fun h2 => absurd h2 h, fun _ => rfl⟩
theorem spot_bare {l : List Nd} {i : Int} (h : isDir l i = true) : Spot l ⟨0, [], i⟩ := ⟨fun _ => ⟨h, rfl⟩, fun h => absurd rfl h⟩
theorem step_spot {l : List Nd} (t : Tree l) {i : Int} {n : List UInt8} (hd : isDir l i = true) (hn : n ≠ []) : Spot l (stepS l i n) := by
  have hm := get_mem (dir_parts hd).1
  refine ⟨fun h => absurd h hn, fun _ => ?_⟩
  have e : (stepS l i n).dir = i := hm.2
  rw [e]
  refine ⟨hd, rfl, ?_⟩
  show hasB (getN l i).ents n = decide (numB (getN l i).ents n ≠ 0)
  cases hb : hasB (getN l i).ents n
  · rw [(find_none hb).1]; rfl
  · rw [decide_eq_true (has_num t hb).2]
theorem par_dir {mi mb nx : Int} {l : List Nd} (h : SoundP mi mb nx l) {i : Int} (hd : isDir l i = true) : isDir l (getN l i).parent = true := by
  obtain ⟨hh, hk⟩ := dir_parts hd
  have hm := get_mem hh
  by_cases h1 : i = 1
  · subst h1; rw [h.rootPar]; exact hd
  · obtain ⟨_, n, hn⟩ := h.once _ hm.1 hk (by rw [hm.2]; exact h1)
    have := ent_dir h.tree hn
    exact dir_mk this.2 this.1
theorem zero_not {mi mb nx : Int} {l : List Nd} (h : SoundP mi mb nx l) : hasN l 0 = false := by
  cases hh : hasN l 0
  · rfl
  · have hm := get_mem hh
    have := (h.ino _ hm.1).1
    rw [hm.2] at this; omega
theorem has_ne0 {mi mb nx : Int} {l : List Nd} (h : SoundP mi mb nx l) {i : Int} (hi : hasN l i = true) : i ≠ 0 := by
  intro e; rw [e, zero_not h] at hi; cases hi
theorem on_spot {mi mb nx : Int} {l : List Nd} (h : SoundP mi mb nx l) (fo : Bool) (g : Nat) (s : Sp) (todo : List (List UInt8)) (dir : Bool) (hs : Spot l s) (hn : ∀ n ∈ todo, n ≠ []) : Led l (onN l fo g s todo dir) := by
  match todo with
  | [] =>
    rw [on_nil]
    split
    · exact led_bad (by decide)
    · exact ⟨fun _ => hs, fun h => absurd rfl h⟩
  | n :: r =>
    have hn1 := hn n (by simp)
    have hnr : ∀ m ∈ r, m ≠ [] := fun m hm => hn m (by simp [hm])
    by_cases h0 : s.ino = 0
    · rw [on_gone h0]; exact led_bad (by decide)
    by_cases hk : (getN l s.ino).kind = 2
    · have hd := kind_has hk
      have hm := get_mem (dir_parts hd).1
      by_cases d1 : n = [46]
      · rw [on_dot h0 hk d1]
        exact on_spot h fo g _ r dir (spot_bare (by rw [hm.2]; exact hd)) hnr
      by_cases d2 : n = [46, 46]
      · rw [on_dots h0 hk d2]
        exact on_spot h fo g _ r dir (spot_bare (par_dir h hd)) hnr
      cases hst : stopB l fo dir s.ino n r
      · match g with
        | 0 => rw [on_loop h0 hk d1 d2 hst]; exact led_bad (by decide)
        | g + 1 =>
          cases hlo : longB (lnkD l s.ino n)
          · rw [on_link h0 hk d1 d2 hst hlo]
            refine on_spot h fo g _ _ _ (spot_bare ?_) ?_
            · split
              · exact kind_has h.rootDir
              · rw [hm.2]; exact hd
            · intro m hm2
              rcases List.mem_append.1 hm2 with hm2 | hm2
              · exact (namesB_good _ m hm2).2
              · exact hnr m hm2
          · rw [on_long h0 hk d1 d2 hst hlo]; exact led_bad (by decide)
      · rw [on_stop h0 hk d1 d2 hst]
        exact on_spot h fo g _ r dir (step_spot h.tree hd hn1) hnr
    · rw [on_file h0 hk]; exact led_bad (by decide)
termination_by (g, todo.length)
theorem seek_spot {mi mb nx : Int} {l : List Nd} (h : SoundP mi mb nx l) (base p : List UInt8) (fo : Bool) : Led l (seekP l base p fo) := by
  have hg : ∀ n ∈ namesB p, n ≠ [] := fun n hn => (namesB_good p n hn).2
  unfold seekP
  split
  · exact led_bad (by decide)
  split
  · exact led_bad (by decide)
  split
  · exact on_spot h _ _ _ _ _ (spot_bare (kind_has h.rootDir)) hg
  split
  · rename_i h1; exact led_bad h1
  · rename_i h1
    exact on_spot h _ _ _ _ _ (spot_bare (home_dir (by simpa using h1))) hg

/-! ### A leaf put in -/
section
variable {mi mb nx : Int} {l : List Nd} {d : Int} {n : List UInt8} {ev : Go.Value} {x : Nd}
/-- What an inode that was there is, when a leaf was put in. -/
theorem new_old (h : SoundP mi mb nx l) (hl : Leaf l nx d n x) {i : Int} (hi : hasN l i = true) : (getN (newL l d n ev x) i).ino = (getN l i).ino ∧ (getN (newL l d n ev x) i).kind = (getN l i).kind ∧ (getN (newL l d n ev x) i).parent = (getN l i).parent ∧ (getN (newL l d n ev x) i).data = (getN l i).data := by
  rw [new_get h hl, if_neg (by intro e; rw [e, fresh h] at hi; cases hi)]
  split
  · rename_i e; subst e; exact ⟨rfl, rfl, rfl, rfl⟩
  · exact ⟨rfl, rfl, rfl, rfl⟩
theorem new_num (h : SoundP mi mb nx l) (hl : Leaf l nx d n x) {i : Int} (hi : hasN l i = true) (m : List UInt8) (hne : ¬ (i = d ∧ m = n)) : numB (getN (newL l d n ev x) i).ents m = numB (getN l i).ents m ∧ hasB (getN (newL l d n ev x) i).ents m = hasB (getN l i).ents m := by
  rw [new_get h hl, if_neg (by intro e; rw [e, fresh h] at hi; cases hi)]
  split
  · rename_i e
    subst e
    have := num_with (dir_sort h i) n nx m
    have hmn : m ≠ n := fun e => hne ⟨rfl, e⟩
    rw [if_neg hmn, decide_eq_false hmn, Bool.false_or] at this
    exact this
  · exact ⟨rfl, rfl⟩
theorem new_num_eq (h : SoundP mi mb nx l) (hl : Leaf l nx d n x) : numB (getN (newL l d n ev x) d).ents n = nx ∧ hasB (getN (newL l d n ev x) d).ents n = true := by
  rw [new_get h hl, if_neg (dir_fresh h hl), if_pos rfl]
  have := num_with (dir_sort h d) n nx n
  rw [if_pos rfl] at this
  exact ⟨this.1, by rw [show (moreD (getN l d) n nx ev).ents = withB (getN l d).ents n nx from rfl, this.2]; simp⟩
/-- One entry more, that wasn't there: all else is as it was. -/
structure Grown (l l' : List Nd) (d : Int) (n : List UInt8) (j : Int) : Prop where
  gone : hasB (getN l d).ents n = false
  old : ∀ {i : Int}, hasN l i = true → (getN l' i).ino = (getN l i).ino ∧ (getN l' i).kind = (getN l i).kind ∧ (getN l' i).parent = (getN l i).parent ∧ (getN l' i).data = (getN l i).data
  has : ∀ {i : Int}, hasN l i = true → hasN l' i = true
  num : ∀ {i : Int}, hasN l i = true → ∀ m, ¬ (i = d ∧ m = n) → numB (getN l' i).ents m = numB (getN l i).ents m ∧ hasB (getN l' i).ents m = hasB (getN l i).ents m
  new : numB (getN l' d).ents n = j ∧ hasB (getN l' d).ents n = true
theorem grown_new (h : SoundP mi mb nx l) (hl : Leaf l nx d n x) : Grown l (newL l d n ev x) d n nx :=
  ⟨hl.gone, fun hi => new_old h hl hi, fun hi => by rw [new_has h hl, hi]; simp, fun hi m hne => new_num h hl hi m hne, new_num_eq h hl⟩
end
section
variable {mi mb nx : Int} {l l' : List Nd} {d : Int} {n : List UInt8} {j : Int}
theorem on_grown (h : SoundP mi mb nx l) (G : Grown l l' d n j) (fo : Bool) (g : Nat) (s : Sp) (todo : List (List UInt8)) (dir : Bool) (hs : s.ino ≠ 0) (hc : (getN l' j).kind = 2 ∨ (fo = false ∧ dir = false)) (hr : onN l fo g s todo dir = (⟨d, n, 0⟩, 0)) :
    onN l' fo g s todo dir = (⟨d, n, j⟩, 0) := by
  match todo with
  | [] =>
    rw [on_nil] at hr
    split at hr
    · cases hr
    · have := (Prod.mk.inj hr).1
      rw [this] at hs; exact absurd rfl hs
  | m :: r =>
    by_cases hk : (getN l s.ino).kind = 2
    · have hd := kind_has hk
      have hh := (dir_parts hd).1
      have hm := get_mem hh
      obtain ⟨o1, o2, o3, o4⟩ := G.old hh
      have hk' : (getN l' s.ino).kind = 2 := o2.trans hk
      by_cases d1 : m = [46]
      · rw [on_dot hs hk d1] at hr
        rw [on_dot hs hk' d1, o1]
        exact on_grown h G fo g _ r dir (by show (getN l s.ino).ino ≠ 0; rw [hm.2]; exact hs) hc hr
      by_cases d2 : m = [46, 46]
      · rw [on_dots hs hk d2] at hr
        rw [on_dots hs hk' d2, o3]
        exact on_grown h G fo g _ r dir (has_ne0 h (dir_parts (par_dir h hd)).1) hc hr
      by_cases hdn : s.ino = d ∧ m = n
      · obtain ⟨e1, e2⟩ := hdn
        have hstop : stopB l fo dir s.ino m r = true := by unfold stopB; rw [e1, e2, G.gone]; rfl
        rw [on_stop hs hk d1 d2 hstop] at hr
        have hz : (stepS l s.ino m).ino = 0 := by
          show numB (getN l s.ino).ents m = 0
          rw [e1, e2]; exact (find_none G.gone).1
        match r with
        | c :: r => rw [on_gone hz] at hr; cases hr
        | [] =>
          have hn' := G.new
          have hstop' : stopB l' fo dir s.ino m [] = true := by
            unfold stopB
            rw [e1, e2, hn'.1, hn'.2]
            rcases hc with hc | ⟨rfl, rfl⟩
            · rw [hc]; rfl
            · simp
          rw [on_stop hs hk' d1 d2 hstop', on_nil]
          have e3 : stepS l' s.ino m = ⟨d, n, j⟩ := by
            unfold stepS
            rw [o1, hm.2, e1, e2, hn'.1]
          rw [e3, if_neg]
          rcases hc with hc | ⟨rfl, rfl⟩
          · rw [hc]; simp
          · simp
      · have hn' := G.num hh m hdn
        have hst : stopB l' fo dir s.ino m r = stopB l fo dir s.ino m r := by
          unfold stopB
          rw [hn'.1, hn'.2]
          cases hb : hasB (getN l s.ino).ents m
          · rfl
          · have hj := h.there _ hm.1 _ (has_num h.tree hb).1
            rw [(G.old hj).2.1]
        have hstep : stepS l' s.ino m = stepS l s.ino m := by unfold stepS; rw [o1, hn'.1]
        cases hst1 : stopB l fo dir s.ino m r
        · match g with
          | 0 => rw [on_loop hs hk d1 d2 hst1] at hr; cases hr
          | g + 1 =>
            have hb : hasB (getN l s.ino).ents m = true := by
              unfold stopB at hst1
              cases hb : hasB (getN l s.ino).ents m
              · rw [hb] at hst1; cases hst1
              · rfl
            have hj := h.there _ hm.1 _ (has_num h.tree hb).1
            have hln : lnkD l' s.ino m = lnkD l s.ino m := by
              unfold lnkD
              rw [hn'.1]; exact (G.old hj).2.2.2
            cases hlo : longB (lnkD l s.ino m)
            · rw [on_link hs hk d1 d2 hst1 hlo] at hr
              rw [on_link hs hk' d1 d2 (hst.trans hst1) (by rw [hln]; exact hlo), hln, o1]
              refine on_grown h G fo g _ _ _ ?_ ?_ hr
              · show (if absB (lnkD l s.ino m) = true then (1 : Int) else (getN l s.ino).ino) ≠ 0
                split
                · decide
                · rw [hm.2]; exact hs
              · rcases hc with hc | ⟨rfl, rfl⟩
                · exact .inl hc
                · refine .inr ⟨rfl, ?_⟩
                  unfold stopB at hst1
                  cases hre : r.isEmpty
                  · simp
                  · rw [hre] at hst1; simp at hst1
            · rw [on_long hs hk d1 d2 hst1 hlo] at hr; cases hr
        · rw [on_stop hs hk d1 d2 hst1] at hr
          rw [on_stop hs hk' d1 d2 (hst.trans hst1), hstep]
          by_cases hz : (stepS l s.ino m).ino = 0
          · match r with
            | c :: r => rw [on_gone hz] at hr; cases hr
            | [] =>
              rw [on_nil] at hr
              split at hr
              · cases hr
              · exfalso
                have e := (Prod.mk.inj hr).1
                unfold stepS at e
                rw [hm.2] at e
                simp only [Sp.mk.injEq] at e
                exact hdn ⟨e.1, e.2.1⟩
          · exact on_grown h G fo g _ r dir hz hc hr
    · rw [on_file hs hk] at hr; cases hr
termination_by (g, todo.length)
theorem at_grown (h : SoundP mi mb nx l) (G : Grown l l' d n j) (r : List (List UInt8)) : ∀ (s t : Sp), s.ino ≠ 0 → t.ino ≠ 0 → atN l s r = (t, 0) → atN l' s r = (t, 0) := by
  induction r with
  | nil => intro s t _ _ h; exact h
  | cons m r ih =>
    intro s t hs ht hr
    by_cases hk : (getN l s.ino).kind = 2
    · have hd := kind_has hk
      have hh := (dir_parts hd).1
      obtain ⟨o1, o2, _, _⟩ := G.old hh
      rw [at_on hs hk] at hr
      rw [at_on hs (o2.trans hk)]
      have hz : (stepS l s.ino m).ino ≠ 0 := by
        intro e
        cases r with
        | nil => rw [show t = stepS l s.ino m from (Prod.mk.inj hr).1.symm] at ht; exact ht e
        | cons c r => rw [at_gone e] at hr; cases hr
      have hdn : ¬ (s.ino = d ∧ m = n) := by
        rintro ⟨e1, e2⟩
        apply hz
        show numB (getN l s.ino).ents m = 0
        rw [e1, e2]; exact (find_none G.gone).1
      have hstep : stepS l' s.ino m = stepS l s.ino m := by unfold stepS; rw [o1, (G.num hh m hdn).1]
      rw [hstep]
      exact ih _ _ hz ht hr
    · rw [at_file hs hk] at hr; cases hr
theorem home_grown (h : SoundP mi mb nx l) (G : Grown l l' d n j) {base : List UInt8} (he : (homeP l base).2 = 0) : homeP l' base = homeP l base := by
  have hd := home_dir he
  by_cases h1 : (getP l base).2 = 0
  · by_cases h2 : (getP l base).1.kind = 2
    · have ha : (atP l base).2 = 0 := by
        refine Decidable.byContradiction fun hn => ?_
        unfold getP at h1
        rw [if_pos hn] at h1; exact hn h1
      have hi : (atP l base).1.ino ≠ 0 := by
        intro hn
        unfold getP at h1
        rw [if_neg (by simp [ha]), if_pos hn] at h1; cases h1
      have hg : getP l base = (getN l (atP l base).1.ino, 0) := by
        unfold getP
        rw [if_neg (by simp [ha]), if_neg hi]
      have hp : atP l' base = atP l base := by
        unfold atP at ha hi ⊢
        cases hpl : plainB base with
        | none => rfl
        | some ns =>
          rw [hpl] at ha hi
          have e : atN l rootS ns = ((atN l rootS ns).1, 0) := Prod.ext rfl ha
          show atN l' rootS ns = atN l rootS ns
          rw [e]
          exact at_grown h G ns _ _ (by decide) hi e
      rw [hg] at h2
      have hh := (dir_parts (kind_has h2)).1
      obtain ⟨o1, o2, _, _⟩ := G.old hh
      have hg' : getP l' base = (getN l' (atP l base).1.ino, 0) := by
        unfold getP
        rw [hp, if_neg (by simp [ha]), if_neg hi]
      have h2' : (getN l' (atP l base).1.ino).kind = 2 := o2.trans h2
      have ea : homeP l' base = ((getN l' (atP l base).1.ino).ino, 0) := by
        unfold homeP
        rw [hg', if_neg (by simp), if_neg (by simp [h2'])]
      have eb : homeP l base = ((getN l (atP l base).1.ino).ino, 0) := by
        unfold homeP
        have h2b : (getN l (atP l base).1.ino).kind = 2 := h2
        rw [hg, if_neg (by simp), if_neg (by simp [h2b])]
      rw [ea, eb, o1]
    · unfold homeP at he
      rw [if_neg (by simp [h1]), if_pos h2] at he; cases he
  · unfold homeP at he
    rw [if_pos h1] at he; exact absurd he h1
/-- The path to which nothing led leads to the leaf. -/
theorem seek_grown (h : SoundP mi mb nx l) (G : Grown l l' d n j) {base p : List UInt8} (hc : (getN l' j).kind = 2 ∨ slashB p = false) (hr : seekP l base p false = (⟨d, n, 0⟩, 0)) : seekP l' base p false = (⟨d, n, j⟩, 0) := by
  have hc' : (getN l' j).kind = 2 ∨ (false = false ∧ slashB p = false) := hc.imp id fun h => ⟨rfl, h⟩
  unfold seekP at hr ⊢
  by_cases h0 : p = []
  · rw [if_pos h0] at hr; cases hr
  rw [if_neg h0] at hr ⊢
  by_cases h1 : longB p = true
  · rw [if_pos h1] at hr; cases hr
  rw [if_neg h1] at hr ⊢
  by_cases h2 : absB p = true
  · rw [if_pos h2] at hr ⊢
    exact on_grown h G false 40 _ _ _ (by decide) hc' hr
  rw [if_neg h2] at hr ⊢
  by_cases h3 : (homeP l base).2 ≠ 0
  · rw [if_pos h3] at hr
    have := (Prod.mk.inj hr).2
    exact absurd this h3
  have h4 : (homeP l base).2 = 0 := by simpa using h3
  rw [if_neg h3] at hr
  rw [home_grown h G h4, if_neg h3]
  exact on_grown h G false 40 _ _ _ (has_ne0 h (dir_parts (home_dir h4)).1) hc' hr
/-- Where a path led to what was there, it leads still. -/
theorem on_kept (h : SoundP mi mb nx l) (G : Grown l l' d n j) (fo : Bool) (g : Nat) (s t : Sp) (todo : List (List UInt8)) (dir : Bool) (hs : s.ino ≠ 0) (hsh : hasN l s.ino = true) (ht : t.ino ≠ 0) (hr : onN l fo g s todo dir = (t, 0)) :
    onN l' fo g s todo dir = (t, 0) := by
  match todo with
  | [] =>
    rw [on_nil] at hr ⊢
    obtain ⟨_, o2, _, _⟩ := G.old hsh
    rw [G.has hsh, o2]
    rw [hsh] at hr
    exact hr
  | m :: r =>
    by_cases hk : (getN l s.ino).kind = 2
    · have hd := kind_has hk
      have hh := (dir_parts hd).1
      have hm := get_mem hh
      obtain ⟨o1, o2, o3, o4⟩ := G.old hh
      have hk' : (getN l' s.ino).kind = 2 := o2.trans hk
      by_cases d1 : m = [46]
      · rw [on_dot hs hk d1] at hr
        rw [on_dot hs hk' d1, o1]
        exact on_kept h G fo g _ t r dir (by show (getN l s.ino).ino ≠ 0; rw [hm.2]; exact hs) (by show hasN l (getN l s.ino).ino = true; rw [hm.2]; exact hh) ht hr
      by_cases d2 : m = [46, 46]
      · rw [on_dots hs hk d2] at hr
        rw [on_dots hs hk' d2, o3]
        have hpd := (dir_parts (par_dir h hd)).1
        exact on_kept h G fo g _ t r dir (has_ne0 h hpd) hpd ht hr
      by_cases hb : hasB (getN l s.ino).ents m = true
      · have hnum := has_num h.tree hb
        have hj := h.there _ hm.1 _ hnum.1
        have hdn : ¬ (s.ino = d ∧ m = n) := by
          rintro ⟨e1, e2⟩
          rw [e1, e2, G.gone] at hb; cases hb
        have hn' := G.num hh m hdn
        have hst : stopB l' fo dir s.ino m r = stopB l fo dir s.ino m r := by
          unfold stopB
          rw [hn'.1, hn'.2, (G.old hj).2.1]
        have hstep : stepS l' s.ino m = stepS l s.ino m := by unfold stepS; rw [o1, hn'.1]
        cases hst1 : stopB l fo dir s.ino m r
        · match g with
          | 0 => rw [on_loop hs hk d1 d2 hst1] at hr; cases hr
          | g + 1 =>
            have hln : lnkD l' s.ino m = lnkD l s.ino m := by
              unfold lnkD
              rw [hn'.1]; exact (G.old hj).2.2.2
            cases hlo : longB (lnkD l s.ino m)
            · rw [on_link hs hk d1 d2 hst1 hlo] at hr
              rw [on_link hs hk' d1 d2 (hst.trans hst1) (by rw [hln]; exact hlo), hln, o1]
              have hfr : hasN l (if absB (lnkD l s.ino m) = true then (1 : Int) else (getN l s.ino).ino) = true := by
                split
                · exact h.root
                · rw [hm.2]; exact hh
              exact on_kept h G fo g _ t _ _ (has_ne0 h hfr) hfr ht hr
            · rw [on_long hs hk d1 d2 hst1 hlo] at hr; cases hr
        · rw [on_stop hs hk d1 d2 hst1] at hr
          rw [on_stop hs hk' d1 d2 (hst.trans hst1), hstep]
          exact on_kept h G fo g _ t r dir hnum.2 hj ht hr
      · exfalso
        have hb2 : hasB (getN l s.ino).ents m = false := by simpa using hb
        have hst1 : stopB l fo dir s.ino m r = true := by unfold stopB; rw [hb2]; rfl
        have hz : (stepS l s.ino m).ino = 0 := (find_none hb2).1
        rw [on_stop hs hk d1 d2 hst1] at hr
        match r with
        | c :: r => rw [on_gone hz] at hr; cases hr
        | [] =>
          rw [on_nil] at hr
          split at hr
          · cases hr
          · have e := (Prod.mk.inj hr).1
            rw [← e] at ht; exact ht hz
    · rw [on_file hs hk] at hr; cases hr
termination_by (g, todo.length)
theorem seek_kept (h : SoundP mi mb nx l) (G : Grown l l' d n j) {base p : List UInt8} {fo : Bool} {t : Sp} (ht : t.ino ≠ 0) (hr : seekP l base p fo = (t, 0)) : seekP l' base p fo = (t, 0) := by
  unfold seekP at hr ⊢
  by_cases h0 : p = []
  · rw [if_pos h0] at hr; cases hr
  rw [if_neg h0] at hr ⊢
  by_cases h1 : longB p = true
  · rw [if_pos h1] at hr; cases hr
  rw [if_neg h1] at hr ⊢
  by_cases h2 : absB p = true
  · rw [if_pos h2] at hr ⊢
    exact on_kept h G fo 40 _ _ _ _ (by decide) h.root ht hr
  rw [if_neg h2] at hr ⊢
  by_cases h3 : (homeP l base).2 ≠ 0
  · rw [if_pos h3] at hr
    exact absurd (Prod.mk.inj hr).2 h3
  have h4 : (homeP l base).2 = 0 := by simpa using h3
  rw [if_neg h3] at hr
  rw [home_grown h G h4, if_neg h3]
  have hh := (dir_parts (home_dir h4)).1
  exact on_kept h G fo 40 _ _ _ _ (has_ne0 h hh) hh ht hr
end
end Go.Proofs.YtobepdmpacdakaaGreat

/- The walk of a sound file system into which a leaf was put: one place more. No program's function. -/
namespace Go.Proofs.YtobepdmpacdakaaGreat

theorem flat_sub {α β : Type} {es : List α} {f g : α → List β} (h : ∀ e ∈ es, (f e).Sublist (g e)) : (es.flatMap f).Sublist (es.flatMap g) := by
  induction es with
  | nil => exact List.Sublist.slnil
  | cons e r ih =>
    rw [List.flatMap_cons, List.flatMap_cons]
    exact (h e (by simp)).append (ih fun x hx => h x (by simp [hx]))
section
variable {mi mb nx : Int} {l : List Nd} {d : Int} {n : List UInt8} {ev : Go.Value} {x : Nd}
theorem below_sub (h : SoundP mi mb nx l) (hl : Leaf l nx d n x) (D : Nat) : ∀ i p, hasN l i = true → (belowN l D i p).Sublist (belowN (newL l d n ev x) D i p) := by
  induction D with
  | zero => intro i p _; exact List.Sublist.slnil
  | succ D ih =>
    intro i p hi
    have hi' : hasN (newL l d n ev x) i = true := by rw [new_has h hl, hi]; simp
    show (if hasN l i = true then _ else _ : List Ent).Sublist (if hasN (newL l d n ev x) i = true then _ else _)
    rw [if_pos hi, if_pos hi']
    refine List.Sublist.cons_cons _ ?_
    have hkids : ∀ e ∈ (getN l i).ents, (belowN l D e.2 (underB p e.1)).Sublist (belowN (newL l d n ev x) D e.2 (underB p e.1)) := fun e he => ih _ _ (h.there _ (get_mem hi).1 e he)
    rw [new_get h hl i, if_neg (by intro e; rw [e, fresh h] at hi; cases hi)]
    split
    · rename_i e
      subst e
      have he : (getN l i).ents = aheadB (getN l i).ents n ++ behindB (getN l i).ents n := (without_none (dir_sort h i) hl.gone).symm
      have e2 : (moreD (getN l i) n nx ev).ents = aheadB (getN l i).ents n ++ (n, nx) :: behindB (getN l i).ents n := rfl
      have hin : ∀ e ∈ aheadB (getN l i).ents n ++ behindB (getN l i).ents n, e ∈ (getN l i).ents := fun e he2 => by rw [he]; exact he2
      rw [e2]
      conv => lhs; rw [he]
      rw [List.flatMap_append, List.flatMap_append, List.flatMap_cons]
      refine (flat_sub fun e he => hkids e (hin e (by simp [he]))).append ?_
      exact (flat_sub fun e he => hkids e (hin e (by simp [he]))).trans (List.sublist_append_right _ _)
    · exact flat_sub hkids
theorem new_len (h : SoundP mi mb nx l) (hl : Leaf l nx d n x) : (newL l d n ev x).length = l.length + 1 := by
  have hd := (dir_parts hl.dir).1
  have hdn := dir_fresh h hl
  unfold newL
  rw [len_set_new (set_rise _ h.rise), len_set_has h.rise]
  · rw [more_ino l hd]; exact hd
  · rw [has_set, more_ino l hd, hl.ino, fresh h, decide_eq_false (fun e => hdn e.symm)]; rfl
theorem new_ents (h : SoundP mi mb nx l) (hl : Leaf l nx d n x) : entsN (newL l d n ev x) = entsN l + 1 := by
  have hd := (dir_parts hl.dir).1
  have hdn := dir_fresh h hl
  have a1 := ents_set (set_rise (moreD (getN l d) n x.ino ev) h.rise) x
  have a2 := ents_set h.rise (moreD (getN l d) n x.ino ev)
  rw [get_set h.rise, more_ino l hd, hl.ino, if_neg (fun e => hdn e.symm), getN_none (fresh h)] at a1
  rw [more_ino l hd, hl.ino] at a2
  have a3 : (moreD (getN l d) n nx ev).ents.length = (getN l d).ents.length + 1 := by
    have := (with_perm (getN l d).ents n nx).length_eq
    rw [without_none (dir_sort h d) hl.gone] at this
    exact this
  have a4 : x.ents.length = 0 := by rw [hl.ents]; rfl
  have a5 : zeroN.ents.length = 0 := rfl
  unfold newL
  rw [hl.ino]
  omega
theorem list_new (h : SoundP mi mb nx l) (hl : Leaf l nx d n x) (hn : nx < 1099511627776) (hf : fitsB mi mb l 1 (costN x) = true) : (listN l).Sublist (listN (newL l d n ev x)) ∧ (listN (newL l d n ev x)).length = (listN l).length + 1 := by
  have t := h.tree
  have t' := (new_sound (ev := ev) h hl hn hf).tree
  constructor
  · unfold listN
    rw [new_len h hl, ← below_more t 1 [47] 1]
    exact below_sub h hl _ 1 [47] h.root
  · rw [list_exact t, list_exact t', new_ents h hl]; omega
end

/-! ### The statement's count -/
/-- How many of l are found in m, one behind the other. -/
def greedN (l : List Ent) : List Ent → Nat → Nat
  | [], n => n
  | b :: m, n => greedN l m (if l[n]? = some b then n + 1 else n)
theorem greed_snoc (l m : List Ent) (b : Ent) : ∀ n, greedN l (m ++ [b]) n = if l[greedN l m n]? = some b then greedN l m n + 1 else greedN l m n := by
  induction m with
  | nil => intro n; rfl
  | cons a m ih => intro n; exact ih _
theorem greed_next {l m : List Ent} {k : Nat} (h : k < m.length) : greedN l (m.take (k + 1)) 0 = if l[greedN l (m.take k) 0]? = some m[k] then greedN l (m.take k) 0 + 1 else greedN l (m.take k) 0 := by
  rw [List.take_succ_eq_append_getElem h, greed_snoc]
theorem greed_le (l m : List Ent) : ∀ n, n ≤ l.length → greedN l m n ≤ l.length := by
  induction m with
  | nil => intro n h; exact h
  | cons b m ih =>
    intro n h
    refine ih _ ?_
    split
    · rename_i h2
      rcases Nat.lt_or_ge n l.length with h3 | h3
      · omega
      · rw [List.getElem?_eq_none h3] at h2; cases h2
    · exact h
theorem greed_all (l m : List Ent) : ∀ n, n ≤ l.length → (l.drop n).Sublist m → greedN l m n = l.length := by
  induction m with
  | nil =>
    intro n h hs
    have := hs.length_le
    rw [List.length_drop, List.length_nil] at this
    show n = l.length
    omega
  | cons b m ih =>
    intro n h hs
    show greedN l m (if l[n]? = some b then n + 1 else n) = l.length
    rcases Nat.lt_or_ge n l.length with h3 | h3
    · rw [List.drop_eq_getElem_cons h3] at hs
      rw [List.getElem?_eq_getElem h3]
      by_cases hb : l[n] = b
      · rw [if_pos (by rw [hb])]
        refine ih _ h3 ?_
        rw [hb] at hs
        exact List.cons_sublist_cons.1 hs
      · rw [if_neg (by simpa using hb)]
        refine ih _ h ?_
        rw [List.drop_eq_getElem_cons h3]
        rcases List.sublist_cons_iff.1 hs with h4 | ⟨r, h4, h5⟩
        · exact h4
        · exact absurd (List.cons.inj h4).1 hb
    · have e : l[n]? = none := List.getElem?_eq_none h3
      rw [e, if_neg (by simp)]
      exact ih _ h (by rw [List.drop_eq_nil_of_le h3]; exact List.nil_sublist _)
end Go.Proofs.YtobepdmpacdakaaGreat

/- What is made, as lists. No program's function. -/
namespace Go.Proofs.YtobepdmpacdakaaGreat

def leafX (nx k : Int) (data : List UInt8) (d : Int) : Nd := ⟨nx, k, 1, data, if k = 2 then d else 0, .slice none 0 0, []⟩
def sizeK (k : Int) (data : List UInt8) : Int := if k = 1 then (data.length : Int) else 0
def newF (mi mb nx : Int) (l : List Nd) (s : Sp) (k : Int) (data : List UInt8) (ev : Go.Value) : (Int × List Nd) × Int :=
  if mayB s.name = false then ((nx, l), 9) else if fitsB mi mb l 1 (sizeK k data) = false then ((nx, l), 8)
  else ((nx + 1, newL l s.dir s.name ev (leafX nx k data s.dir)), 0)
theorem newF_may {mi mb nx : Int} {l : List Nd} {s : Sp} {k : Int} {data : List UInt8} {ev : Go.Value} (h : mayB s.name = false) : newF mi mb nx l s k data ev = ((nx, l), 9) := by unfold newF; rw [if_pos h]
theorem newF_full {mi mb nx : Int} {l : List Nd} {s : Sp} {k : Int} {data : List UInt8} {ev : Go.Value} (h : mayB s.name = true) (h2 : fitsB mi mb l 1 (sizeK k data) = false) : newF mi mb nx l s k data ev = ((nx, l), 8) := by unfold newF; rw [if_neg (by simp [h]), if_pos h2]
theorem newF_ok {mi mb nx : Int} {l : List Nd} {s : Sp} {k : Int} {data : List UInt8} {ev : Go.Value} (h : mayB s.name = true) (h2 : fitsB mi mb l 1 (sizeK k data) = true) : newF mi mb nx l s k data ev = ((nx + 1, newL l s.dir s.name ev (leafX nx k data s.dir)), 0) := by
  unfold newF; rw [if_neg (by simp [h]), if_neg (by simp [h2])]
def putF (mi mb nx : Int) (l : List Nd) (base p : List UInt8) (k : Int) (data : List UInt8) (refused : Int) (ev : Go.Value) : (Int × List Nd) × Int :=
  if (seekP l base p false).2 ≠ 0 then ((nx, l), (seekP l base p false).2)
  else if (seekP l base p false).1.ino ≠ 0 then ((nx, l), 2)
  else if refused ≠ 0 ∧ slashB p = true then ((nx, l), refused)
  else newF mi mb nx l (seekP l base p false).1 k data ev
def symF (mi mb nx : Int) (l : List Nd) (base target p : List UInt8) (ev : Go.Value) : (Int × List Nd) × Int :=
  if target = [] then ((nx, l), 1) else if 4095 < target.length then ((nx, l), 7)
  else if target.contains 0 = true then ((nx, l), 9) else putF mi mb nx l base p 3 target 1 ev
theorem setN_key2 {a b : List Nd} {x y : Nd} (h : a.map Nd.key = b.map Nd.key) (hx : x.key = y.key) : (setN a x).map Nd.key = (setN b y).map Nd.key := by
  have hi : x.ino = y.ino := (Prod.mk.inj hx).1
  have hf : ∀ (p : Int → Bool) (l : List Nd), (l.filter (fun e => p e.ino)).map Nd.key = (l.map Nd.key).filter (fun q => p q.1) := by
    intro p l
    rw [List.filter_map]; rfl
  unfold setN
  rw [List.map_append, List.map_append, List.map_cons, List.map_cons, hx, hi]
  unfold aheadN behindN
  rw [hf (fun i => decide (i < y.ino)), hf (fun i => decide (i < y.ino)), hf (fun i => decide (y.ino < i)), hf (fun i => decide (y.ino < i)), h]
theorem newL_key (l : List Nd) (d : Int) (n : List UInt8) (a b : Go.Value) (x : Nd) : (newL l d n a x).map Nd.key = (newL l d n b x).map Nd.key := setN_key2 (setN_key l rfl) rfl
theorem newF_key (mi mb nx : Int) (l : List Nd) (s : Sp) (k : Int) (data : List UInt8) (a b : Go.Value) : (newF mi mb nx l s k data a).2 = (newF mi mb nx l s k data b).2 ∧ (newF mi mb nx l s k data a).1.1 = (newF mi mb nx l s k data b).1.1 ∧ onesB (newF mi mb nx l s k data a).1.2 (newF mi mb nx l s k data b).1.2 = true := by
  unfold newF
  split
  · exact ⟨rfl, rfl, onesB_refl _⟩
  split
  · exact ⟨rfl, rfl, onesB_refl _⟩
  · exact ⟨rfl, rfl, decide_eq_true (newL_key l _ _ a b _)⟩
theorem putF_key (mi mb nx : Int) (l : List Nd) (base p : List UInt8) (k : Int) (data : List UInt8) (refused : Int) (a b : Go.Value) : (putF mi mb nx l base p k data refused a).2 = (putF mi mb nx l base p k data refused b).2 ∧ (putF mi mb nx l base p k data refused a).1.1 = (putF mi mb nx l base p k data refused b).1.1 ∧ onesB (putF mi mb nx l base p k data refused a).1.2 (putF mi mb nx l base p k data refused b).1.2 = true := by
  unfold putF
  split
  · exact ⟨rfl, rfl, onesB_refl _⟩
  split
  · exact ⟨rfl, rfl, onesB_refl _⟩
  split
  · exact ⟨rfl, rfl, onesB_refl _⟩
  · exact newF_key _ _ _ _ _ _ _ _ _
theorem symF_key (mi mb nx : Int) (l : List Nd) (base target p : List UInt8) (a b : Go.Value) : (symF mi mb nx l base target p a).2 = (symF mi mb nx l base target p b).2 ∧ (symF mi mb nx l base target p a).1.1 = (symF mi mb nx l base target p b).1.1 ∧ onesB (symF mi mb nx l base target p a).1.2 (symF mi mb nx l base target p b).1.2 = true := by
  unfold symF
  split
  · exact ⟨rfl, rfl, onesB_refl _⟩
  split
  · exact ⟨rfl, rfl, onesB_refl _⟩
  split
  · exact ⟨rfl, rfl, onesB_refl _⟩
  · exact putF_key _ _ _ _ _ _ _ _ _ _ _

/-- What is made in a sound file system. -/
theorem put_sound {mi mb nx : Int} {l : List Nd} (h : SoundP mi mb nx l) (hn : nx < 1099511627776) {base p data : List UInt8} {k refused : Int} {ev : Go.Value} (hk : k = 1 ∨ k = 2 ∨ k = 3) (hd : k = 2 → data = []) (hd3 : k = 3 → 1 ≤ data.length ∧ data.length ≤ 4095 ∧ data.all (fun c => c != 0) = true) (hrf : k ≠ 2 → refused ≠ 0)
    (h0 : (putF mi mb nx l base p k data refused ev).2 = 0) (hrn : refused ≠ 0 ∨ k = 2) :
    SoundP mi mb (putF mi mb nx l base p k data refused ev).1.1 (putF mi mb nx l base p k data refused ev).1.2 ∧
      (∃ d n, seekP (putF mi mb nx l base p k data refused ev).1.2 base p false = (⟨d, n, nx⟩, 0)) ∧
      getN (putF mi mb nx l base p k data refused ev).1.2 nx = leafX nx k data (seekP l base p false).1.dir ∧
      hasN (putF mi mb nx l base p k data refused ev).1.2 nx = true ∧
      (putF mi mb nx l base p k data refused ev).1.2.length = l.length + 1 ∧
      (listN l).Sublist (listN (putF mi mb nx l base p k data refused ev).1.2) ∧ (listN (putF mi mb nx l base p k data refused ev).1.2).length = (listN l).length + 1 := by
  have hsp := seek_spot h base p false
  unfold putF at h0 ⊢
  split at h0
  · rename_i h1; exact absurd h0 h1
  rename_i h1
  rw [if_neg h1]
  split at h0
  · cases h0
  rename_i h2
  rw [if_neg h2]
  split at h0
  · rename_i h3
    exact absurd h0 h3.1
  rename_i h3
  rw [if_neg h3]
  have h1' : (seekP l base p false).2 = 0 := by simpa using h1
  have h2' : (seekP l base p false).1.ino = 0 := by simpa using h2
  have hspot := hsp.1 h1'
  generalize hq : seekP l base p false = q at *
  obtain ⟨⟨qd, qn, qi⟩, qe⟩ := q
  dsimp only at h1' h2' hspot h0 ⊢
  subst h1' h2'
  unfold newF at h0 ⊢
  split at h0
  · cases h0
  rename_i h4
  rw [if_neg h4]
  split at h0
  · cases h0
  rename_i h5
  rw [if_neg h5]
  have h4' : mayB qn = true := by simpa using h4
  have h5' : fitsB mi mb l 1 (sizeK k data) = true := by simpa using h5
  have hqn : qn ≠ [] := (mayB_good h4').2
  obtain ⟨g1, g2, g3⟩ := hspot.entry hqn
  dsimp only at g1 g2 g3
  have hgone : hasB (getN l qd).ents qn = false := by rw [g3]; simp
  have hleaf : Leaf l nx qd qn (leafX nx k data qd) := by
    refine ⟨g1, hgone, h4', rfl, rfl, rfl, ?_, fun hk2 => ?_⟩
    · unfold secondX leafX
      rcases hk with rfl | rfl | rfl
      · rfl
      · rw [hd rfl]; rfl
      · obtain ⟨a1, a2, a3⟩ := hd3 rfl
        simp [a1, a2]
        simpa using a3
    · show (if k = 2 then qd else 0) = qd
      rw [if_pos (show k = 2 from hk2)]
  have hcost : (costN (leafX nx k data qd) : Int) = sizeK k data := by
    unfold sizeK
    by_cases h1 : k = 1
    · rw [if_pos h1]; rw [costN_yes (show (leafX nx k data qd).kind = 1 from h1)]; rfl
    · rw [if_neg h1]; rw [costN_no (show ¬ (leafX nx k data qd).kind = 1 from h1)]; rfl
  rw [← hcost] at h5'
  have hso := new_sound (ev := ev) h hleaf hn h5'
  have hG := grown_new (ev := ev) h hleaf
  have hgx : getN (newL l qd qn ev (leafX nx k data qd)) nx = leafX nx k data qd := by rw [new_get h hleaf, if_pos rfl]
  refine ⟨hso, ⟨qd, qn, seek_grown h hG ?_ hq⟩, hgx, by rw [new_has h hleaf]; simp, new_len h hleaf, list_new h hleaf hn h5'⟩
  rw [hgx]
  by_cases hk2 : k = 2
  · exact .inl hk2
  · right
    have hr := hrf hk2
    cases hsl : slashB p
    · rfl
    · exact absurd ⟨hr, hsl⟩ h3
end Go.Proofs.YtobepdmpacdakaaGreat

/- The name that a path leads to is no longer than a name may be. No program's function. -/
namespace Go.Proofs.YtobepdmpacdakaaGreat

theorem long_no {p : List UInt8} (h : longB p = false) : p.length ≤ 4095 ∧ ∀ n ∈ namesB p, n.length ≤ 255 := by
  unfold longB at h
  simpa using h
theorem on_short (l : List Nd) (fo : Bool) (g : Nat) (s : Sp) (todo : List (List UInt8)) (dir : Bool) (hs : s.name.length ≤ 255) (ht : ∀ n ∈ todo, n.length ≤ 255) : (onN l fo g s todo dir).1.name.length ≤ 255 := by
  have hz : (zeroS).name.length ≤ 255 := by decide
  match todo with
  | [] =>
    rw [on_nil]
    split
    · exact hz
    · exact hs
  | m :: r =>
    have hr : ∀ n ∈ r, n.length ≤ 255 := fun n hn => ht n (by simp [hn])
    by_cases h0 : s.ino = 0
    · rw [on_gone h0]; exact hz
    by_cases hk : (getN l s.ino).kind = 2
    · by_cases d1 : m = [46]
      · rw [on_dot h0 hk d1]; exact on_short l fo g _ r dir (by simp) hr
      by_cases d2 : m = [46, 46]
      · rw [on_dots h0 hk d2]; exact on_short l fo g _ r dir (by simp) hr
      cases hst : stopB l fo dir s.ino m r
      · match g with
        | 0 => rw [on_loop h0 hk d1 d2 hst]; exact hz
        | g + 1 =>
          cases hlo : longB (lnkD l s.ino m)
          · rw [on_link h0 hk d1 d2 hst hlo]
            refine on_short l fo g _ _ _ (by simp) fun n hn => ?_
            rcases List.mem_append.1 hn with hn | hn
            · exact (long_no hlo).2 n hn
            · exact hr n hn
          · rw [on_long h0 hk d1 d2 hst hlo]; exact hz
      · rw [on_stop h0 hk d1 d2 hst]
        exact on_short l fo g _ r dir (ht m (by simp)) hr
    · rw [on_file h0 hk]; exact hz
termination_by (g, todo.length)
theorem seek_short (l : List Nd) (base p : List UInt8) (fo : Bool) : (seekP l base p fo).1.name.length ≤ 255 := by
  have hz : (zeroS).name.length ≤ 255 := by decide
  unfold seekP
  split
  · exact hz
  split
  · exact hz
  rename_i hl
  have hn := (long_no (p := p) (by simpa using hl)).2
  split
  · exact on_short _ _ _ _ _ _ (by simp) hn
  split
  · exact hz
  · exact on_short _ _ _ _ _ _ (by simp) hn
end Go.Proofs.YtobepdmpacdakaaGreat

/- The way on, reckoned: with steps counted, so that it can be run. No program's function. -/
namespace Go.Proofs.YtobepdmpacdakaaGreat

def onF (l : List Nd) (fo : Bool) : Nat → Nat → Sp → List (List UInt8) → Bool → Option (Sp × Int)
  | 0, _, _, _, _ => none
  | k + 1, g, s, todo, dir =>
    match todo with
    | [] => some (if (hasN l s.ino && dir && (getN l s.ino).kind != 2) = true then (zeroS, 3) else (s, 0))
    | n :: r =>
      if s.ino = 0 then some (zeroS, 1)
      else if (getN l s.ino).kind = 2 then
        if n = [46] then onF l fo k g ⟨0, [], (getN l s.ino).ino⟩ r dir
        else if n = [46, 46] then onF l fo k g ⟨0, [], (getN l s.ino).parent⟩ r dir
        else if stopB l fo dir s.ino n r = true then onF l fo k g (stepS l s.ino n) r dir
        else match g with
          | 0 => some (zeroS, 6)
          | g + 1 => if longB (lnkD l s.ino n) = true then some (zeroS, 7)
            else onF l fo k g ⟨0, [], if absB (lnkD l s.ino n) = true then 1 else (getN l s.ino).ino⟩ (namesB (lnkD l s.ino n) ++ r) (dir || (slashB (lnkD l s.ino n) && r.isEmpty))
      else some (zeroS, 3)
theorem onF_eq {l : List Nd} {fo : Bool} (k : Nat) : ∀ {g : Nat} {s : Sp} {todo : List (List UInt8)} {dir : Bool} {r : Sp × Int}, onF l fo k g s todo dir = some r → onN l fo g s todo dir = r := by
  induction k with
  | zero => intro g s todo dir r h; cases h
  | succ k ih =>
    intro g s todo dir r h
    cases todo with
    | nil => rw [on_nil]; exact Option.some.inj h
    | cons n t =>
      unfold onF at h
      dsimp only at h
      by_cases h0 : s.ino = 0
      · rw [if_pos h0] at h; rw [on_gone h0]; exact Option.some.inj h
      rw [if_neg h0] at h
      by_cases hk : (getN l s.ino).kind = 2
      · rw [if_pos hk] at h
        by_cases h1 : n = [46]
        · rw [if_pos h1] at h; rw [on_dot h0 hk h1]; exact ih h
        rw [if_neg h1] at h
        by_cases h2 : n = [46, 46]
        · rw [if_pos h2] at h; rw [on_dots h0 hk h2]; exact ih h
        rw [if_neg h2] at h
        cases h3 : stopB l fo dir s.ino n t
        · rw [if_neg (by rw [h3]; simp)] at h
          cases g with
          | zero => rw [on_loop h0 hk h1 h2 h3]; exact Option.some.inj h
          | succ g =>
            cases h4 : longB (lnkD l s.ino n)
            · dsimp only at h
              rw [if_neg (by rw [h4]; simp)] at h
              rw [on_link h0 hk h1 h2 h3 h4]; exact ih h
            · dsimp only at h
              rw [if_pos h4] at h
              rw [on_long h0 hk h1 h2 h3 h4]; exact Option.some.inj h
        · rw [if_pos h3] at h
          rw [on_stop h0 hk h1 h2 h3]; exact ih h
      · rw [if_neg hk] at h; rw [on_file h0 hk]; exact Option.some.inj h
def seekF (k : Nat) (l : List Nd) (base p : List UInt8) (fo : Bool) : Option (Sp × Int) :=
  if p = [] then some (zeroS, 1) else if longB p = true then some (zeroS, 7)
  else if absB p = true then onF l fo k 40 rootS (namesB p) (slashB p)
  else if (homeP l base).2 ≠ 0 then some (zeroS, (homeP l base).2)
  else onF l fo k 40 ⟨0, [], (homeP l base).1⟩ (namesB p) (slashB p)
theorem seekF_eq (k : Nat) {l : List Nd} {base p : List UInt8} {fo : Bool} {r : Sp × Int} (h : seekF k l base p fo = some r) : seekP l base p fo = r := by
  unfold seekF at h
  unfold seekP
  split
  · rename_i h0; rw [if_pos h0] at h; exact Option.some.inj h
  rename_i h0
  rw [if_neg h0] at h
  split
  · rename_i h1; rw [if_pos h1] at h; exact Option.some.inj h
  rename_i h1
  rw [if_neg h1] at h
  split
  · rename_i h2; rw [if_pos h2] at h; exact onF_eq k h
  rename_i h2
  rw [if_neg h2] at h
  split
  · rename_i h3; rw [if_pos h3] at h; exact Option.some.inj h
  rename_i h3
  rw [if_neg h3] at h; exact onF_eq k h
end Go.Proofs.YtobepdmpacdakaaGreat

/- What is made, reckoned. No program's function. -/
namespace Go.Proofs.YtobepdmpacdakaaGreat

def putE (r : Sp × Int) (mi mb nx : Int) (l : List Nd) (p : List UInt8) (k : Int) (data : List UInt8) (refused : Int) (ev : Go.Value) : (Int × List Nd) × Int :=
  if r.2 ≠ 0 then ((nx, l), r.2) else if r.1.ino ≠ 0 then ((nx, l), 2) else if refused ≠ 0 ∧ slashB p = true then ((nx, l), refused) else newF mi mb nx l r.1 k data ev
theorem putF_eq (n : Nat) {mi mb nx : Int} {l : List Nd} {base p data : List UInt8} {k refused : Int} {ev : Go.Value} {r : Sp × Int} (h : seekF n l base p false = some r) : putF mi mb nx l base p k data refused ev = putE r mi mb nx l p k data refused ev := by
  unfold putF putE; rw [seekF_eq n h]
theorem symF_eq (n : Nat) {mi mb nx : Int} {l : List Nd} {base p t : List UInt8} {ev : Go.Value} {r : Sp × Int} (h : seekF n l base p false = some r) (h0 : t ≠ []) (h1 : t.length ≤ 4095) (h2 : t.contains 0 = false) : symF mi mb nx l base t p ev = putE r mi mb nx l p 3 t 1 ev := by
  unfold symF
  rw [if_neg h0, if_neg (by omega), if_neg (by rw [h2]; simp), putF_eq n h]
end Go.Proofs.YtobepdmpacdakaaGreat

/- Walks: the document's Same. -/
namespace Go.Proofs.YtobepdmpacdakaaGreat
open Go.RowKit

theorem refSame_any (la lb : List Ent) (va vb : Value) (w : World) (ha : Ents w va la) (hb : Ents w vb lb) :
    Calls Tryz.prog 80 #[va, vb] w fun e w' => e = .returned (.bool (decide (la = lb))) ∧ Below w.heap.size w w' := by
  obtain ⟨a, ca, rfl, hca, hma, HA⟩ := ha
  obtain ⟨b, cb, rfl, hcb, hmb, HB⟩ := hb
  unfold maxLen at hma hmb
  by_cases hl : la.length = lb.length
  · have HA' := Lib.hid HA
    have HB' := Lib.hid HB
    clear HA HB
    have hne : ((la.length : Int) != (lb.length : Int)) = false := by simp; omega
    have HL := Lib.hid hl
    have hl2 : la.length ≤ lb.length := by omega
    clear hl
    go_enter Tryz.func80, Tryz.ntmps80
    go_wp2
    go_loopw [5] (fun i wr => ∃ k : Nat, k ≤ la.length ∧ i = .int .i64 k ∧ Aside (la.take k = lb.take k) ∧ Below w.heap.size w wr) (fun i _ => la.length - (intOf i).toNat)
    case atStart => exact ⟨0, Nat.zero_le _, rfl, rfl, Below.refl _ _⟩
    case round =>
      obtain ⟨k, hk, rfl, HT, hbw⟩ := hrel
      by_cases hlt : k < la.length
      · have hltb : k < lb.length := by omega
        obtain ⟨ba, oa, rfl, hba, hxa⟩ := HA'.out (by omega)
        obtain ⟨bb, ob, rfl, hbb, hxb⟩ := HB'.out (by omega)
        have c1 : wr.cell? ⟨ba, oa + k * 2, none⟩ = some (.string ⟨la[k].1.toArray⟩) := (hbw.cell (p := ⟨ba, oa + k * 2, none⟩) hba).trans (hxa k hlt).1
        have c2 : wr.cell? ⟨ba, oa + k * 2 + 1, none⟩ = some (.int .i64 la[k].2) := (hbw.cell (p := ⟨ba, oa + k * 2 + 1, none⟩) hba).trans (hxa k hlt).2
        have c3 : wr.cell? ⟨bb, ob + k * 2, none⟩ = some (.string ⟨lb[k].1.toArray⟩) := (hbw.cell (p := ⟨bb, ob + k * 2, none⟩) hbb).trans (hxb k hltb).1
        have c4 : wr.cell? ⟨bb, ob + k * 2 + 1, none⟩ = some (.int .i64 lb[k].2) := (hbw.cell (p := ⟨bb, ob + k * 2 + 1, none⟩) hbb).trans (hxb k hltb).2
        clear hxa hxb
        have k0 : (0 : Int) ≤ (k : Int) := by omega
        have k1 : (k : Int) < (la.length : Int) := by omega
        have k2 : (k : Int) < (lb.length : Int) := by omega
        cases he : la[k].1 == lb[k].1
        · have hne2 : Hid (decide (la = lb) = false) := by
            show _ = _
            rw [decide_eq_false_iff_not]
            intro e
            subst e
            simp at he
          go_wp2
          go_quiet (fail)
          go_wp2
          go_ret
          exact ⟨by rw [hne2.out]; rfl, below_drewN hbw _⟩
        · cases hn : la[k].2 == lb[k].2
          · have hne2 : Hid (decide (la = lb) = false) := by
              show _ = _
              rw [decide_eq_false_iff_not]
              intro e
              subst e
              simp at hn
            go_wp2
            go_quiet (fail)
            go_wp2
            go_ret
            exact ⟨by rw [hne2.out]; rfl, below_drewN hbw _⟩
          · have HT2 : Hid (la.take (k + 1) = lb.take (k + 1)) := by
              show _ = _
              rw [List.take_succ_eq_append_getElem hlt, List.take_succ_eq_append_getElem hltb, HT.out]
              rw [beq_iff_eq] at he hn
              rw [show la[k] = lb[k] from Prod.ext he hn]
            go_wp2
            go_quiet (fail)
            go_wp2
            go_roundw
            case rel => exact ⟨k + 1, by omega, by go_num, HT2.out, below_drewN hbw _⟩
            case measure => simp [intOf]; omega
      · obtain rfl : k = la.length := by omega
        have heq : Hid (decide (la = lb) = true) := by
          show _ = _
          rw [decide_eq_true_eq]
          have := HT.out
          rw [List.take_length, HL.out, List.take_length] at this
          exact this
        clear HT
        go_wp2
        go_ret
        exact ⟨by rw [heq.out]; rfl, hbw⟩
  · have hne : ((la.length : Int) != (lb.length : Int)) = true := by rw [bne_iff_ne]; omega
    have hd : Hid (decide (la = lb) = false) := by
      show _ = _
      rw [decide_eq_false_iff_not]; rintro rfl; exact hl rfl
    clear HA HB
    go_enter Tryz.func80, Tryz.ntmps80
    go_wp2
    go_ret
    exact ⟨by rw [hd.out]; rfl, Below.refl _ _⟩
end Go.Proofs.YtobepdmpacdakaaGreat

/- What is made: the sizes of the table, and what the statement asks of it. No program's function. -/
namespace Go.Proofs.YtobepdmpacdakaaGreat

structure Sized (L : List Nd) : Prop where
  len : L.length ≤ 42
  short : ∀ x ∈ L, shortP 300 x.ents
  data : ∀ x ∈ L, x.data.length ≤ 5000
  pairs : (pairsN L).length ≤ 1000000
theorem pairs_few {L : List Nd} {m : Nat} (h : ∀ x ∈ L, x.ents.length ≤ m) : (pairsN L).length ≤ L.length * m := by
  induction L with
  | nil => simp [pairsN]
  | cons x r ih =>
    have h1 := ih fun y hy => h y (by simp [hy])
    have h2 := h x (by simp)
    have e : (pairsN (x :: r)).length = x.ents.length + (pairsN r).length := by simp [pairsN]
    rw [e, List.length_cons, Nat.add_mul]
    omega
theorem newL_sized {l : List Nd} (hc : Calm l) (hl : l.length ≤ 40) (d : Int) {n : List UInt8} (hn : n.length ≤ 255) (ev : Go.Value) {x : Nd} (hx : x.ents = []) (hd : x.data.length ≤ 5000) : Sized (newL l d n ev x) := by
  have hg := calm_get hc d
  have hm : ∀ z ∈ newL l d n ev x, z = x ∨ z = moreD (getN l d) n x.ino ev ∨ z ∈ l := fun z hz => by
    rcases mem_setN hz with h | h
    · exact .inl h
    · exact .inr (mem_setN h)
  have hlen : (newL l d n ev x).length ≤ 42 := by
    have h1 := setN_len (setN l (moreD (getN l d) n x.ino ev)) x
    have h2 := setN_len l (moreD (getN l d) n x.ino ev)
    unfold newL
    omega
  have hel : ∀ z ∈ newL l d n ev x, z.ents.length ≤ 1001 := fun z hz => by
    rcases hm z hz with rfl | rfl | h
    · rw [hx]; exact Nat.zero_le _
    · exact Nat.le_trans (with_len _ _ _) (by have := hg.2.1; omega)
    · have := (hc.size z h).1; omega
  refine ⟨hlen, fun z hz => ?_, fun z hz => ?_, ?_⟩
  · rcases hm z hz with rfl | rfl | h
    · rw [hx]; exact fun _ h => (nomatch h)
    · intro e he
      rcases mem_with.1 he with rfl | ⟨h, _⟩
      · show n.length ≤ 300
        omega
      · exact hg.2.2.2 e h
    · exact (hc.size z h).2.2
  · rcases hm z hz with rfl | rfl | h
    · exact hd
    · exact hg.2.2.1
    · exact (hc.size z h).2.1
  · have := pairs_few hel
    have h2 : (newL l d n ev x).length * 1001 ≤ 42 * 1001 := Nat.mul_le_mul_right _ hlen
    omega
theorem Sized.get {L : List Nd} (h : Sized L) (i : Int) : (getN L i).data.length ≤ 5000 := by
  cases hh : hasN L i
  · rw [getN_none hh]; exact Nat.zero_le _
  · exact h.data _ (get_mem hh).1
theorem Sized.bytes {L : List Nd} (h : Sized L) : bytesN L ≤ 1000000 := by
  have := bytesN_few h.data
  have h2 : L.length * 5000 ≤ 42 * 5000 := Nat.mul_le_mul_right _ h.len
  omega

/-- What the statement asks of what a call answers. -/
structure MadeT (mi mb nx : Int) (l : List Nd) (base p data : List UInt8) (K : Int) (Z : (Int × List Nd) × Int) : Prop where
  bad : Z.2 ≠ 0 → Z.1 = (nx, l)
  good : Z.2 = 0 → checkN mi mb Z.1.1 Z.1.2 = 0 ∧ (∃ d n, seekP Z.1.2 base p false = (⟨d, n, nx⟩, 0)) ∧ hasN Z.1.2 nx = true ∧ (getN Z.1.2 nx).kind = K ∧ (getN Z.1.2 nx).ino = nx ∧ (K ≠ 2 → (getN Z.1.2 nx).data = data) ∧ Z.1.2.length = l.length + 1 ∧ (listN l).Sublist (listN Z.1.2) ∧ (listN Z.1.2).length = (listN l).length + 1 ∧ Sized Z.1.2
theorem newF_sized {mi mb nx : Int} {l : List Nd} (hc : Calm l) (hl : l.length ≤ 40) {s : Sp} {k : Int} {data : List UInt8} {ev : Go.Value} (hn : s.name.length ≤ 255) (hd : data.length ≤ 5000) (h : (newF mi mb nx l s k data ev).2 = 0) : Sized (newF mi mb nx l s k data ev).1.2 := by
  unfold newF at h ⊢
  split at h
  · cases h
  rename_i h1
  rw [if_neg h1]
  split at h
  · cases h
  rename_i h2
  rw [if_neg h2]
  exact newL_sized hc hl s.dir hn ev rfl hd
theorem putF_bad {mi mb nx : Int} {l : List Nd} {base p : List UInt8} {k : Int} {data : List UInt8} {rf : Int} {ev : Go.Value} (h : (putF mi mb nx l base p k data rf ev).2 ≠ 0) : (putF mi mb nx l base p k data rf ev).1 = (nx, l) := by
  unfold putF newF at h ⊢
  split
  · rfl
  split
  · rfl
  split
  · rfl
  split
  · rfl
  split
  · rfl
  · rename_i h1 h2 h3 h4 h5
    rw [if_neg h1, if_neg h2, if_neg h3, if_neg h4, if_neg h5] at h
    exact absurd rfl h
theorem putF_sized {mi mb nx : Int} {l : List Nd} (hc : Calm l) (hl : l.length ≤ 40) {base p : List UInt8} {k : Int} {data : List UInt8} {rf : Int} {ev : Go.Value} (hd : data.length ≤ 5000) (h : (putF mi mb nx l base p k data rf ev).2 = 0) (hrf : rf ≠ 0 ∨ k = 2 ∧ rf = 0) : Sized (putF mi mb nx l base p k data rf ev).1.2 := by
  unfold putF at h ⊢
  split at h
  · rename_i h1; exact absurd h h1
  rename_i h1
  rw [if_neg h1]
  split at h
  · cases h
  rename_i h2
  rw [if_neg h2]
  split at h
  · rename_i h3
    exact absurd h h3.1
  rename_i h3
  rw [if_neg h3]
  exact newF_sized hc hl (seek_short l base p false) hd h
theorem made_put {mi mb nx : Int} {l : List Nd} (h : okB mi mb nx l = true) (hn : nx < 1099511627776) {base p data : List UInt8} {k rf : Int} {ev : Go.Value} (hc : Calm l) (hl : l.length ≤ 40) (hk : k = 1 ∨ k = 2 ∨ k = 3) (hd : k = 2 → data = []) (hd3 : k = 3 → 1 ≤ data.length ∧ data.length ≤ 4095 ∧ data.all (fun c => c != 0) = true) (hrf : k ≠ 2 → rf ≠ 0) (hr2 : k = 2 → rf = 0) (hdl : data.length ≤ 5000) {data2 : List UInt8} (hdd : k ≠ 2 → data2 = data) :
    MadeT mi mb nx l base p data2 k (putF mi mb nx l base p k data rf ev) := by
  refine ⟨putF_bad, fun h0 => ?_⟩
  have hor : rf ≠ 0 ∨ k = 2 := by by_cases h2 : k = 2; exact .inr h2; exact .inl (hrf h2)
  obtain ⟨g1, g2, g3, g4, g5, g6, g7⟩ := put_sound (ok_sound h) hn hk hd hd3 hrf h0 hor
  refine ⟨sound_check g1, g2, g4, by rw [g3]; rfl, by rw [g3]; rfl, fun h2 => by rw [g3, hdd h2]; rfl, g5, g6, g7, putF_sized hc hl hdl h0 ?_⟩
  by_cases h2 : k = 2
  · exact .inr ⟨h2, hr2 h2⟩
  · exact .inl (hrf h2)
theorem made_sym {mi mb nx : Int} {l : List Nd} (h : okB mi mb nx l = true) (hn : nx < 1099511627776) {base p t : List UInt8} {ev : Go.Value} (hc : Calm l) (hl : l.length ≤ 40) (hdl : t.length ≤ 5000) : MadeT mi mb nx l base p t 3 (symF mi mb nx l base t p ev) := by
  unfold symF
  split
  · exact ⟨fun _ => rfl, fun h0 => (by cases h0)⟩
  rename_i h1
  split
  · exact ⟨fun _ => rfl, fun h0 => (by cases h0)⟩
  rename_i h2
  split
  · exact ⟨fun _ => rfl, fun h0 => (by cases h0)⟩
  rename_i h3
  refine made_put h hn hc hl (.inr (.inr rfl)) (fun e => absurd e (by decide)) (fun _ => ⟨?_, by omega, ?_⟩) (fun _ => by decide) (fun e => absurd e (by decide)) hdl (fun _ => rfl)
  · rcases Nat.eq_zero_or_pos t.length with e | e
    · exact absurd (List.length_eq_zero_iff.1 e) h1
    · exact e
  · rw [List.all_eq_true]
    intro c hc
    rw [bne_iff_ne]
    rintro rfl
    exact h3 (List.contains_iff_mem.2 hc)
end Go.Proofs.YtobepdmpacdakaaGreat
