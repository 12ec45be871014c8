import Derived.Test.YtolbhjjcabiabaaGreatDoorQMWalkB03
import Derived.Test.YtolbhjjcabiabaaGreatDoorChecked
import Derived.Deep.LoopGhost
import Derived.BigQuiet
import Derived.Deep.RegionWith
import Derived.Lib.IndexAny
import Derived.Lib.OthersKept
import Derived.Lib.DecodeN
import Derived.Laws.Runes
import Derived.Deep.WholeRow
import Derived.Laws.RangeAny
import Derived.StillTailTactics
set_option linter.unusedVariables false
set_option linter.unusedSimpArgs false
/- strings.ContainsAny of a slash and a zero byte, at every text, valid UTF-8 or not. -/
set_option linter.unusedVariables false
set_option linter.unusedSimpArgs false
namespace Go.Proofs.YtolbhjjcabiabaaGreatDoor
open Go.RowKit

def hitB (c : UInt8) : Bool := c == 47 || c == 0
theorem hitB_low {c : UInt8} (h : 128 ≤ c.toNat) : hitB c = false := by
  unfold hitB
  rw [Bool.or_eq_false_iff, beq_eq_false_iff_ne, beq_eq_false_iff_ne]
  constructor <;> · rintro rfl; exact absurd h (by decide)
theorem hit_contains (c : UInt8) : [47, 0].contains c = hitB c := by simp [hitB, List.contains, List.elem, Bool.or_comm]; cases c == 47 <;> cases c == 0 <;> rfl
theorem indexAny_hits (l : List UInt8) : decide (0 ≤ Lib.indexAny l [47, 0]) = l.any hitB := by
  induction l with
  | nil => rfl
  | cons c l ih =>
    have hge := Lib.indexAny_ge [47, 0] l
    rw [List.any_cons, ← ih]
    show decide (0 ≤ (if [47, 0].contains c then (0 : Int) else if Lib.indexAny l [47, 0] == -1 then -1 else Lib.indexAny l [47, 0] + 1)) = _
    rw [hit_contains]
    cases hitB c
    · simp only [Bool.false_eq_true, if_false, Bool.false_or]
      by_cases h : Lib.indexAny l [47, 0] = -1
      · rw [if_pos (by simpa using h), h]
      · rw [if_neg (by simpa using h)]
        have h2 : 0 ≤ Lib.indexAny l [47, 0] := by omega
        rw [decide_eq_true h2, decide_eq_true (by omega)]
    · simp
theorem decode_skip (s : ByteArray) (i : Nat) (h : i < s.size) (h1 : 128 ≤ (s[i]'h).toNat) :
    1 ≤ (Utf8.decode s i).2 ∧ i + (Utf8.decode s i).2 ≤ s.size ∧ ∀ j (hj : j < s.size), i ≤ j → j < i + (Utf8.decode s i).2 → 128 ≤ (s[j]'hj).toNat := by
  have g : ∀ j (hj : j < s.size), (s.get! j).toNat = (s[j]'hj).toNat := fun j hj => by rw [← get_at s j hj]; rfl
  have h0 := g i h
  have hd := Lib.decode_at s i
  have key : (Utf8.decode s i).2 = 1 ∨ ((Utf8.decode s i).2 = 2 ∧ 1 < s.size - i ∧ (s.get! (i + 1)).toNat / 64 = 2) ∨ ((Utf8.decode s i).2 = 3 ∧ 2 < s.size - i ∧ (s.get! (i + 1)).toNat / 64 = 2 ∧ (s.get! (i + 2)).toNat / 64 = 2) ∨
      ((Utf8.decode s i).2 = 4 ∧ 3 < s.size - i ∧ (s.get! (i + 1)).toNat / 64 = 2 ∧ (s.get! (i + 2)).toNat / 64 = 2 ∧ (s.get! (i + 3)).toNat / 64 = 2) := by
    rw [hd]
    unfold Lib.decodeN
    have hb : ¬ (s.get! i).toNat < 128 := by omega
    rw [if_neg hb]
    repeat' split
    all_goals simp_all
  rcases key with k | ⟨k, k1, k2⟩ | ⟨k, k1, k2, k3⟩ | ⟨k, k1, k2, k3, k4⟩
  · refine ⟨by omega, by omega, fun j hj a b => ?_⟩
    obtain rfl : j = i := by omega
    exact h1
  · refine ⟨by omega, by omega, fun j hj a b => ?_⟩
    have : j = i ∨ j = i + 1 := by omega
    rcases this with rfl | rfl
    · exact h1
    · have := g _ hj; omega
  · refine ⟨by omega, by omega, fun j hj a b => ?_⟩
    have : j = i ∨ j = i + 1 ∨ j = i + 2 := by omega
    rcases this with rfl | rfl | rfl
    · exact h1
    · have := g _ hj; omega
    · have := g _ hj; omega
  · refine ⟨by omega, by omega, fun j hj a b => ?_⟩
    have : j = i ∨ j = i + 1 ∨ j = i + 2 ∨ j = i + 3 := by omega
    rcases this with rfl | rfl | rfl | rfl
    · exact h1
    · have := g _ hj; omega
    · have := g _ hj; omega
    · have := g _ hj; omega

theorem encode_cases (r : Int) (hv : Utf8.valid r = true) (h : 128 ≤ r) :
    (∃ a b : UInt8, Utf8.encode r = ⟨#[a, b]⟩ ∧ 128 ≤ b.toNat) ∨ (∃ a b c : UInt8, Utf8.encode r = ⟨#[a, b, c]⟩) ∨ (∃ a b c d : UInt8, Utf8.encode r = ⟨#[a, b, c, d]⟩) := by
  have hc : ¬ r.toNat < 128 := by omega
  unfold Utf8.encode
  simp only [hv, if_true, hc, if_false]
  split
  · exact .inl ⟨_, _, rfl, by simp; omega⟩
  · split
    · exact .inr (.inl ⟨_, _, _, rfl⟩)
    · exact .inr (.inr ⟨_, _, _, _, rfl⟩)
theorem IndexByte_empty (c : Int) (w : World) :
    Calls Tryz.prog 78 #[.string ((ByteArray.mk #[47, 0]).extract 2 2), .int .u8 c] w fun e w' => e = .returned (.int .i64 (-1)) ∧ w' = w := by
  refine (Tryz.strings_IndexByte _ _ _).mono ?_
  rintro e w' ⟨rfl, rfl⟩
  exact ⟨rfl, rfl⟩
set_option maxHeartbeats 4000000 in
set_option maxRecDepth 1000000 in
theorem IndexRune_high (r : Int) (h : 128 ≤ r) (hi : r ≤ 2147483647) (w : World) :
    Calls Tryz.prog 142 #[.string ⟨#[47, 0]⟩, .int .i32 r] w fun e w' => e = .returned (.int .i64 (-1)) ∧ Below w.heap.size w w' := by
  by_cases he : r = 65533
  · subst he
    go_enter Tryz.func142, Tryz.ntmps142
    go_wp2
    go_loopg [5, 6] 2 (fun g _ _ wx => ∃ i : Nat, i + g = 2 ∧ wx.heap[w.heap.size]? = some (.stringIter ⟨#[47, 0]⟩ i) ∧ Below w.heap.size w wx)
    case atStart => exact ⟨0, by omega, World.iter_heap w _ 0, (Below.refl _ w).alloc (Nat.le_refl _) _⟩
    case round =>
      obtain ⟨i, hig, hit, hb⟩ := hrel
      rcases i with _ | _ | i
      · obtain rfl : gk = 2 := by omega
        have hnx := fun ty => Lib.run_next_any_at (P := Tryz.prog) wr w.heap.size ⟨#[47, 0]⟩ 0 ty hit (by decide)
        have hit2 := Lib.iterAt_heap wr w.heap.size ⟨#[47, 0]⟩ 0 1 hit
        have hb2 := Lib.below_iterAt hb (Nat.le_refl _) ⟨#[47, 0]⟩ 1
        rw [show Utf8.decode ⟨#[47, 0]⟩ 0 = (47, 1) from rfl] at hnx
        go_wp2
        go_roundg 1
        case measure => omega
        case rel => exact ⟨1, rfl, hit2, hb2⟩
      · obtain rfl : gk = 1 := by omega
        have hnx := fun ty => Lib.run_next_any_at (P := Tryz.prog) wr w.heap.size ⟨#[47, 0]⟩ 1 ty hit (by decide)
        have hit2 := Lib.iterAt_heap wr w.heap.size ⟨#[47, 0]⟩ 1 2 hit
        have hb2 := Lib.below_iterAt hb (Nat.le_refl _) ⟨#[47, 0]⟩ 2
        rw [show Utf8.decode ⟨#[47, 0]⟩ 1 = (0, 1) from rfl] at hnx
        go_wp2
        go_roundg 0
        case measure => omega
        case rel => exact ⟨2, rfl, hit2, hb2⟩
      · obtain rfl : i = 0 := by omega
        have hnx := fun ty => Lib.run_next_end_at (P := Tryz.prog) wr w.heap.size ⟨#[47, 0]⟩ 2 ty hit (by decide)
        go_wp2
        go_ret
        exact ⟨rfl, hb⟩
  · have heb : (r == 65533) = false := by simpa using he
    cases hv : Lib.validRune r
    · go_enter Tryz.func142, Tryz.ntmps142
      go_wp2_with fail
      refine (Tryz.utf8_ValidRune r _).mono ?_
      rintro e w' ⟨rfl, rfl⟩
      rw [hv]
      go_wp2
      go_ret
      exact ⟨rfl, Below.refl _ _⟩
    · have hv2 : Utf8.valid r = true := by
        simp [Lib.validRune, Utf8.valid] at hv ⊢; omega
      rcases encode_cases r hv2 h with ⟨a, b, hE, hb⟩ | ⟨a, b, c, hE⟩ | ⟨a, b, c, d, hE⟩
      · have hne : ((0 : Int) != (b.toNat : Int)) = true := by rw [bne_iff_ne]; omega
        go_enter Tryz.func142, Tryz.ntmps142
        go_wp2_with fail
        refine (Tryz.utf8_ValidRune r _).mono ?_
        rintro e w' ⟨rfl, rfl⟩
        rw [hv]
        go_wp2
        go_step3
        go_wp2
        go_loopw [9] (fun s9 wx => s9 = .int .i64 1 ∧ wx = w') (fun _ _ => 0)
        case atStart => exact ⟨rfl, rfl⟩
        case round =>
          obtain ⟨rfl, rfl⟩ := hrel
          go_wp2
          go_step3
          go_wp2
          go_quiet (fail)
          go_wp2
          go_region_with (go_at_call 78; refine (IndexByte_empty _ _).mono ?_; rintro e w2 ⟨rfl, rfl⟩)
          all_goals go_wp2
          all_goals (show bodyPost Tryz.prog Tryz.f142 (fun e w' => e = .returned (.int .i64 (-1)) ∧ Below wr.heap.size wr w') .ret _ _)
          all_goals go_ret
          all_goals exact ⟨rfl, below_drewN (Below.refl _ _) _⟩
      · go_enter Tryz.func142, Tryz.ntmps142
        go_wp2_with fail
        refine (Tryz.utf8_ValidRune r _).mono ?_
        rintro e w' ⟨rfl, rfl⟩
        rw [hv]
        go_wp2
        go_step3
        go_wp2
        go_loopw [9] (fun s9 wx => s9 = .int .i64 2 ∧ wx = w') (fun _ _ => 0)
        case atStart => exact ⟨rfl, rfl⟩
        case round =>
          obtain ⟨rfl, rfl⟩ := hrel
          go_wp2
          try rw [Exit.noGoto_ret]
          go_ret
          exact ⟨rfl, Below.refl _ _⟩
      · go_enter Tryz.func142, Tryz.ntmps142
        go_wp2_with fail
        refine (Tryz.utf8_ValidRune r _).mono ?_
        rintro e w' ⟨rfl, rfl⟩
        rw [hv]
        go_wp2
        go_step3
        go_wp2
        go_loopw [9] (fun s9 wx => s9 = .int .i64 3 ∧ wx = w') (fun _ _ => 0)
        case atStart => exact ⟨rfl, rfl⟩
        case round =>
          obtain ⟨rfl, rfl⟩ := hrel
          go_wp2
          try rw [Exit.noGoto_ret]
          go_ret
          exact ⟨rfl, Below.refl _ _⟩

theorem hits_next {l : List UInt8} {i n : Nat} (h0 : (l.take i).any hitB = false) (hn : i + n ≤ l.length) (h : ∀ j (hj : j < l.length), i ≤ j → j < i + n → hitB l[j] = false) : (l.take (i + n)).any hitB = false := by
  rw [List.any_eq_false] at h0 ⊢
  intro x hx
  obtain ⟨j, hj, rfl⟩ := List.getElem_of_mem hx
  rw [List.getElem_take]
  simp only [List.length_take] at hj
  by_cases hlt : j < i
  · exact h0 l[j] (by
      rw [List.mem_iff_getElem]
      exact ⟨j, by simp; omega, by rw [List.getElem_take]⟩)
  · simpa using h j (by omega) (by omega) (by omega)
theorem hits_found {l : List UInt8} {i : Nat} (hi : i < l.length) (h : hitB l[i] = true) : l.any hitB = true := by
  rw [List.any_eq_true]; exact ⟨l[i], List.getElem_mem hi, h⟩
theorem hit_index (c : UInt8) : hitB c = decide (0 ≤ Lib.indexByte [47, 0] c) := by rw [← Lib.contains_iff_indexByte, hit_contains]

set_option maxHeartbeats 8000000 in
set_option maxRecDepth 1000000 in
theorem IndexAny_short (l : List UInt8) (w : World) (h8 : l.length ≤ 8) :
    Calls Tryz.prog 136 #[.string ⟨l.toArray⟩, .string ⟨#[47, 0]⟩] w fun e w' => ∃ r : Int, e = .returned (.int .i64 r) ∧ decide (0 ≤ r) = l.any hitB ∧ Below w.heap.size w w' := by
  have h8z : decide ((8 : Int) < (l.length : Int)) = false := decide_eq_false (by omega)
  have hsz : (ByteArray.mk l.toArray).size = l.length := by simp [ByteArray.size]
  go_enter Tryz.func136, Tryz.ntmps136
  go_wp2_with fail
  refine (Tryz.strings_shouldUseASCIISet _ _).mono ?_
  rintro e w' ⟨rfl, rfl⟩
  rw [h8z]
  go_wp2
  go_loopg [9, 10] l.length (fun g _ _ wx => ∃ i : Nat, i + g = l.length ∧ wx.heap[w'.heap.size]? = some (.stringIter ⟨l.toArray⟩ i) ∧ Aside ((l.take i).any hitB = false) ∧ Below w'.heap.size w' wx)
  case atStart => exact ⟨0, by omega, World.iter_heap w' _ 0, by (show _ = _); simp, (Below.refl _ w').alloc (Nat.le_refl _) _⟩
  case round =>
    obtain ⟨i, hig, hit, HN, hb⟩ := hrel
    by_cases hlt : i < l.length
    · have hs : i < (ByteArray.mk l.toArray).size := by rw [hsz]; exact hlt
      have hnx := fun ty => Lib.run_next_any_at (P := Tryz.prog) wr w'.heap.size ⟨l.toArray⟩ i ty hit hs
      have hit2 := Lib.iterAt_heap wr w'.heap.size ⟨l.toArray⟩ i (i + (Utf8.decode ⟨l.toArray⟩ i).2) hit
      have hb2 := Lib.below_iterAt hb (Nat.le_refl _) ⟨l.toArray⟩ (i + (Utf8.decode ⟨l.toArray⟩ i).2)
      by_cases h128 : (l[i]).toNat < 128
      · have hd := decode_ascii ⟨l.toArray⟩ i hs h128
        rw [show (ByteArray.mk l.toArray)[i] = l[i] from rfl] at hd
        rw [hd] at hnx hit2 hb2
        clear hd
        have hix := hit_index l[i]
        have hback : ((l[i].toNat : Int)).toNat.toUInt8 = l[i] := by simp
        cases hh : hitB l[i]
        · rw [hh] at hix
          have hneg : ¬ ((0 : Int) ≤ Lib.indexByte [47, 0] l[i]) := of_decide_eq_false hix.symm
          have HN2 : Hid ((l.take (i + 1)).any hitB = false) := hits_next HN.out (by omega) (fun j hj a b => by
            obtain rfl : j = i := by omega
            exact hh)
          clear hix hh
          go_wp2_with fail
          refine (Tryz.strings_IndexRune_ascii ⟨#[47, 0]⟩ _ _ (by omega) (by omega)).mono ?_
          rintro e w2 ⟨rfl, rfl⟩
          rw [hback]
          go_wp2
          go_roundg (l.length - (i + 1))
          case measure => omega
          case rel => exact ⟨i + 1, by omega, hit2, HN2.out, hb2⟩
        · rw [hh] at hix
          have hpos : ((0 : Int) ≤ Lib.indexByte [47, 0] l[i]) := of_decide_eq_true hix.symm
          have HF := Lib.hid (hits_found hlt hh)
          clear hix hh
          go_wp2_with fail
          refine (Tryz.strings_IndexRune_ascii ⟨#[47, 0]⟩ _ _ (by omega) (by omega)).mono ?_
          rintro e w2 ⟨rfl, rfl⟩
          rw [hback]
          go_wp2
          go_ret
          exact ⟨i, rfl, by rw [HF.out]; exact decide_eq_true (by omega), hb2⟩
      · have hhi : 128 ≤ ((ByteArray.mk l.toArray)[i]).toNat := by show 128 ≤ (l[i]).toNat; omega
        obtain ⟨s1, s2, s3⟩ := decode_skip ⟨l.toArray⟩ i hs hhi
        obtain ⟨r1, _⟩ := decode_high ⟨l.toArray⟩ i hs hhi
        have r2 := decode_le ⟨l.toArray⟩ i
        rw [hsz] at s2
        have HN2 : Hid ((l.take (i + (Utf8.decode ⟨l.toArray⟩ i).2)).any hitB = false) := hits_next HN.out s2 (fun j hj a b => hitB_low (s3 j (by rw [hsz]; exact hj) a b))
        clear s3 h128 hhi
        generalize Utf8.decode ⟨l.toArray⟩ i = dd at *
        obtain ⟨rr, nn⟩ := dd
        go_wp2_with fail
        refine (IndexRune_high _ (by omega) (by omega) _).mono ?_
        rintro e w2 ⟨rfl, hC⟩
        have hb3 := hb2.trans (hC.mono hb2.size)
        have hit3 : w2.heap[w'.heap.size]? = some (.stringIter ⟨l.toArray⟩ (i + nn)) := by
          rw [hC.block w'.heap.size (Array.getElem?_eq_some_iff.1 hit2).1]; exact hit2
        go_wp2
        go_roundg (l.length - (i + nn))
        case measure => (have s1' : 1 ≤ nn := s1; omega)
        case rel => exact ⟨i + nn, by (have s2' : i + nn ≤ l.length := s2; omega), hit3, HN2.out, hb3⟩
    · obtain rfl : i = l.length := by omega
      have hnx := fun ty => Lib.run_next_end_at (P := Tryz.prog) wr w'.heap.size ⟨l.toArray⟩ l.length ty hit (by rw [hsz]; omega)
      have HF : Hid (l.any hitB = false) := by have := HN.out; rwa [List.take_length] at this
      go_wp2
      go_ret
      exact ⟨-1, rfl, by rw [HF.out]; rfl, hb⟩

theorem zero116 : ∀ w, (zeroValue 157).run Tryz.prog w = .ok (.agg (Array.replicate 256 (.bool false))) w :=
  (zero_of_info (show (Tryz.prog.info? 157).map (fun i => (i.zero, i.size)) = some (some (.agg (Array.replicate 256 (.bool false))), 256) from by kernel_rfl)).1

theorem ContainsAny_any (l : List UInt8) (w : World) (hl : l.length ≤ 1000000) :
    Calls Tryz.prog 119 #[.string ⟨l.toArray⟩, .string ⟨#[47, 0]⟩] w fun e w' => e = .returned (.bool (l.any hitB)) ∧ Below w.heap.size w w' := by
  by_cases h8 : l.length ≤ 8
  · go_enter Tryz.func119, Tryz.ntmps119
    go_wp2_with fail; refine (IndexAny_short l _ h8).mono ?_; rintro e w' ⟨r, rfl, hr, hB⟩
    go_wp2
    go_ret
    exact ⟨by (first | rfl | exact ret_bool hr), hB⟩
  · go_enter Tryz.func119, Tryz.ntmps119
    go_wp2_with fail
    refine (Tryz.strings_IndexAny_long zero116 ⟨l.toArray⟩ ⟨#[47, 0]⟩ _ (by decide) (by simp [ByteArray.size]; omega) (by simp [ByteArray.size]; omega) (by decide) (fun j b h => ?_)).mono ?_
    · match j, h with
      | 0, h => simp at h; subst h; decide
      | 1, h => simp at h; subst h; decide
      | j + 2, h => simp at h
    rintro e w2 ⟨rfl, rfl⟩
    go_wp2
    go_ret
    refine ⟨ret_bool (indexAny_hits l), ((Below.refl _ w).alloc (Nat.le_refl _) _).alloc (by simp) _⟩
end Go.Proofs.YtolbhjjcabiabaaGreatDoor
