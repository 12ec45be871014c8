import Derived.Test.YtpeghnhaekebdaaQMWalkC05
import Derived.Test.YtpeghnhaekebdaaChecked
import Derived.Deep.LoopGhost
import Derived.BigQuiet
import Derived.Deep.RegionWith
import Derived.Lib.IndexAny
import Derived.Lib.OthersKept
import Derived.Lib.DecodeN
import Derived.Laws.Runes
import Derived.Deep.WholeRow
import Derived.Laws.RangeAny
import Derived.StillTailTactics
set_option linter.unusedVariables false
set_option linter.unusedSimpArgs false
/- strings.ContainsAny of a slash and a zero byte, at every text, valid UTF-8 or not. -/
set_option linter.unusedVariables false
set_option linter.unusedSimpArgs false
namespace Go.Proofs.Ytpeghnhaekebdaa
open Go.RowKit

def hitB (c : UInt8) : Bool := c == 47 || c == 0
theorem hitB_low {c : UInt8} (h : 128 ≤ c.toNat) : hitB c = false := by
  unfold hitB
  rw [Bool.or_eq_false_iff, beq_eq_false_iff_ne, beq_eq_false_iff_ne]
  constructor <;> · rintro rfl; exact absurd h (by decide)
theorem hit_contains (c : UInt8) : [47, 0].contains c = hitB c := by simp [hitB, List.contains, List.elem, Bool.or_comm]; cases c == 47 <;> cases c == 0 <;> rfl
theorem indexAny_hits (l : List UInt8) : decide (0 ≤ Lib.indexAny l [47, 0]) = l.any hitB := by
  induction l with
  | nil => rfl
  | cons c l ih =>
    have hge := Lib.indexAny_ge [47, 0] l
    rw [List.any_cons, ← ih]
    show decide (0 ≤ (if [47, 0].contains c then (0 : Int) else if Lib.indexAny l [47, 0] == -1 then -1 else Lib.indexAny l [47, 0] + 1)) = _
    rw [hit_contains]
    cases hitB c
    · simp only [Bool.false_eq_true, if_false, Bool.false_or]
      by_cases h : Lib.indexAny l [47, 0] = -1
      · rw [if_pos (by simpa using h), h]
      · rw [if_neg (by simpa using h)]
        have h2 : 0 ≤ Lib.indexAny l [47, 0] := by omega
        rw [decide_eq_true h2, decide_eq_true (by omega)]
    · simp
theorem decode_skip (s : ByteArray) (i : Nat) (h : i < s.size) (h1 : 128 ≤ (s[i]'h).toNat) :
    1 ≤ (Utf8.decode s i).2 ∧ i + (Utf8.decode s i).2 ≤ s.size ∧ ∀ j (hj : j < s.size), i ≤ j → j < i + (Utf8.decode s i).2 → 128 ≤ (s[j]'hj).toNat := by
  have g : ∀ j (hj : j < s.size), (s.get! j).toNat = (s[j]'hj).toNat := fun j hj => by rw [← get_at s j hj]; rfl
  have h0 := g i h
  have hd := Lib.decode_at s i
  have key : (Utf8.decode s i).2 = 1 ∨ ((Utf8.decode s i).2 = 2 ∧ 1 < s.size - i ∧ (s.get! (i + 1)).toNat / 64 = 2) ∨ ((Utf8.decode s i).2 = 3 ∧ 2 < s.size - i ∧ (s.get! (i + 1)).toNat / 64 = 2 ∧ (s.get! (i + 2)).toNat / 64 = 2) ∨
      ((Utf8.decode s i).2 = 4 ∧ 3 < s.size - i ∧ (s.get! (i + 1)).toNat / 64 = 2 ∧ (s.get! (i + 2)).toNat / 64 = 2 ∧ (s.get! (i + 3)).toNat / 64 = 2) := by
    rw [hd]
    unfold Lib.decodeN
    have hb : ¬ (s.get! i).toNat < 128 := by omega
    rw [if_neg hb]
    repeat' split
    all_goals simp_all
  rcases key with k | ⟨k, k1, k2⟩ | ⟨k, k1, k2, k3⟩ | ⟨k, k1, k2, k3, k4⟩
  · refine ⟨by omega, by omega, fun j hj a b => ?_⟩
    obtain rfl : j = i := by omega
    exact h1
  · refine ⟨by omega, by omega, fun j hj a b => ?_⟩
    have : j = i ∨ j = i + 1 := by omega
    rcases this with rfl | rfl
    · exact h1
    · have := g _ hj; omega
  · refine ⟨by omega, by omega, fun j hj a b => ?_⟩
    have : j = i ∨ j = i + 1 ∨ j = i + 2 := by omega
    rcases this with rfl | rfl | rfl
    · exact h1
    · have := g _ hj; omega
    · have := g _ hj; omega
  · refine ⟨by omega, by omega, fun j hj a b => ?_⟩
    have : j = i ∨ j = i + 1 ∨ j = i + 2 ∨ j = i + 3 := by omega
    rcases this with rfl | rfl | rfl | rfl
    · exact h1
    · have := g _ hj; omega
    · have := g _ hj; omega
    · have := g _ hj; omega

theorem encode_cases (r : Int) (hv : Utf8.valid r = true) (h : 128 ≤ r) :
    (∃ a b : UInt8, Utf8.encode r = ⟨#[a, b]⟩ ∧ 128 ≤ b.toNat) ∨ (∃ a b c : UInt8, Utf8.encode r = ⟨#[a, b, c]⟩) ∨ (∃ a b c d : UInt8, Utf8.encode r = ⟨#[a, b, c, d]⟩) := by
  have hc : ¬ r.toNat < 128 := by omega
  unfold Utf8.encode
  simp only [hv, if_true, hc, if_false]
  split
  · exact .inl ⟨_, _, rfl, by simp; omega⟩
  · split
    · exact .inr (.inl ⟨_, _, _, rfl⟩)
    · exact .inr (.inr ⟨_, _, _, _, rfl⟩)
theorem hits_next {l : List UInt8} {i n : Nat} (h0 : (l.take i).any hitB = false) (hn : i + n ≤ l.length) (h : ∀ j (hj : j < l.length), i ≤ j → j < i + n → hitB l[j] = false) : (l.take (i + n)).any hitB = false := by
  rw [List.any_eq_false] at h0 ⊢
  intro x hx
  obtain ⟨j, hj, rfl⟩ := List.getElem_of_mem hx
  rw [List.getElem_take]
  simp only [List.length_take] at hj
  by_cases hlt : j < i
  · exact h0 l[j] (by
      rw [List.mem_iff_getElem]
      exact ⟨j, by simp; omega, by rw [List.getElem_take]⟩)
  · simpa using h j (by omega) (by omega) (by omega)
theorem hits_found {l : List UInt8} {i : Nat} (hi : i < l.length) (h : hitB l[i] = true) : l.any hitB = true := by
  rw [List.any_eq_true]; exact ⟨l[i], List.getElem_mem hi, h⟩
theorem hit_index (c : UInt8) : hitB c = decide (0 ≤ Lib.indexByte [47, 0] c) := by rw [← Lib.contains_iff_indexByte, hit_contains]

end Go.Proofs.Ytpeghnhaekebdaa
