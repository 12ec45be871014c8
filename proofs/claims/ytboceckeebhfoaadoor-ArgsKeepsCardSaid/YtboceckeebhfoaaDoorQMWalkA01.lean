/- Texts put together: Pure01, Pure01b, Pure17, Pure17b, Pure17c, Aid, WalkA17, WalkB01, Quote17, WalkB17, Strs, Same, WalkC17, Blk, App17, HeldAid, Shelf, Clone, WalkA01. -/
import Derived.WalkKit
import Derived.WalkSpells
import Derived.WalkLawsBesides
import Derived.Lib.Hide
import Derived.ShutString
import Derived.Test.YtboceckeebhfoaaDoorChecked
import Derived.Deep.LoopGhost
import Derived.Test.YtboceckeebhfoaaDoorRows
import Derived.StillTailTactics
import Derived.Deep.QuietTactic
import Derived.BigQuiet
import Derived.Lib.AppendStr
import Derived.OwnWalk
import Derived.Deep.Cut
import Derived.Lib.SmallJoins
import Derived.RangeFuncBox
import Derived.Lib.AppendZerosOnto
import Derived.Lib.SliceRun
import Derived.Lib.Walk
import Derived.Deep.RegionHeld3
import Derived.Shelf.Small.Strs
import Derived.Shelf.LaysM
import Derived.Shelf.Strconv.Clone
import Derived.Shelf.Strings.Search1
import Derived.Test.YtboceckeebhfoaaDoorProg
import Derived.Deep.RegionLaw
set_option linter.unusedVariables false
set_option linter.unusedSimpArgs false
/- Plain functions on lists of bytes: quoting and its form. No walk, no program. -/
namespace Go.Proofs.YtboceckeebhfoaaDoor

/-- A byte that stands for itself between quotes. -/
def bareB (c : UInt8) : Bool := decide (32 ≤ c.toNat) && decide (c.toNat ≤ 126) && !(c.toNat == 34) && !(c.toNat == 92)
abbrev hexDigits : List UInt8 := [48, 49, 50, 51, 52, 53, 54, 55, 56, 57, 97, 98, 99, 100, 101, 102]
def hexD (n : Nat) : UInt8 := hexDigits.getD n 0
/-- A byte's form between quotes. -/
def formB (c : UInt8) : List UInt8 := if bareB c then [c] else [92, 120, hexD (c.toNat / 16), hexD (c.toNat % 16)]
/-- The forms of all bytes. -/
def formsB (l : List UInt8) : List UInt8 := l.flatMap formB
def quoteB (l : List UInt8) : List UInt8 := 34 :: (formsB l ++ [34])
/-- A plain word's byte. -/
def plainC (c : UInt8) : Bool := decide (33 ≤ c.toNat) && decide (c.toNat ≤ 126) && !(c.toNat == 34)
def plainB (l : List UInt8) : Bool := !l.isEmpty && l.all plainC

theorem formB_bare {c : UInt8} (h : bareB c = true) : formB c = [c] := by simp [formB, h]
theorem formB_hex {c : UInt8} (h : bareB c = false) : formB c = [92, 120, hexD (c.toNat / 16), hexD (c.toNat % 16)] := by simp [formB, h]
theorem formB_len (c : UInt8) : (formB c).length ≤ 4 := by unfold formB; split <;> simp
theorem formB_pos (c : UInt8) : 1 ≤ (formB c).length := by unfold formB; split <;> simp
theorem formsB_len (l : List UInt8) : (formsB l).length ≤ 4 * l.length := by
  induction l with
  | nil => simp [formsB]
  | cons c l ih => have := formB_len c; simp only [formsB, List.flatMap_cons, List.length_append, List.length_cons] at *; omega
theorem formsB_snoc (l : List UInt8) (k : Nat) (h : k < l.length) : formsB (l.take (k + 1)) = formsB (l.take k) ++ formB l[k] := by
  unfold formsB; rw [List.take_succ_eq_append_getElem h, List.flatMap_append]; simp only [List.flatMap_cons, List.flatMap_nil, List.append_nil]
theorem formsB_take_len (l : List UInt8) (k : Nat) : (formsB (l.take k)).length ≤ 4 * k := by
  have := formsB_len (l.take k)
  have h2 : (l.take k).length ≤ k := List.length_take_le _ _
  omega
theorem quoteB_len (l : List UInt8) : (quoteB l).length ≤ 4 * l.length + 2 := by
  have := formsB_len l; simp [quoteB]; omega
theorem hex_atN (m : Nat) (h : m < hexDigits.length) : hexDigits[m]'h = hexD m := by
  simp [hexD, List.getD, List.getElem?_eq_getElem h]
theorem hex_at (m : Nat) (q : Int) (hq : q.toNat = m) (h : q.toNat < hexDigits.length) : hexDigits[q.toNat]'h = hexD m := by
  subst hq; simp [hexD, List.getD, List.getElem?_eq_getElem h]
theorem plain_step (l : List UInt8) (k : Nat) (h : k < l.length) (ht : (l.take k).all plainC = true) (hp : plainC l[k] = true) : (l.take (k + 1)).all plainC = true := by
  rw [List.take_succ_eq_append_getElem h, List.all_append, ht]; simp [hp]
theorem plain_no (l : List UInt8) (k : Nat) (h : k < l.length) (hp : plainC l[k] = false) : plainB l = false := by
  rw [Bool.eq_false_iff]
  intro hb
  simp only [plainB, Bool.and_eq_true, List.all_eq_true] at hb
  have := hb.2 l[k] (List.getElem_mem h)
  simp [hp] at this
end Go.Proofs.YtboceckeebhfoaaDoor

/- Plain functions on lists of bytes: reading what is quoted. No walk, no program. -/
set_option linter.unusedVariables false
set_option linter.unusedSimpArgs false
namespace Go.Proofs.YtboceckeebhfoaaDoor

/-- The place of a digit base sixteen: 16, if it is none. -/
def idx16 (c : UInt8) : Nat := hexDigits.findIdx (· == c)
theorem idx16_le (c : UInt8) : idx16 c ≤ 16 := List.findIdx_le_length
theorem hexD_idx16 {c : UInt8} (h : idx16 c < 16) : hexD (idx16 c) = c := by
  have h' : idx16 c < hexDigits.length := h
  have := List.findIdx_getElem (p := (· == c)) (xs := hexDigits) (w := h')
  rw [← hex_atN _ h']; simp only [beq_iff_eq] at this; exact this
theorem idx16_hexD_all : ∀ n : Fin 16, idx16 (hexD n.val) = n.val := by decide
theorem idx16_hexD {n : Nat} (h : n < 16) : idx16 (hexD n) = n := idx16_hexD_all ⟨n, h⟩
theorem idx16_of {c : UInt8} {d : Nat} (hd : d ≤ 16) (hb : ∀ j, j < d → hexD j ≠ c) (he : d < 16 → hexD d = c) : idx16 c = d := by
  rcases Nat.lt_or_ge (idx16 c) d with h | h
  · exact absurd (hexD_idx16 (by omega)) (hb _ h)
  · rcases Nat.lt_or_ge d 16 with h2 | h2
    · have e := he h2
      have := idx16_hexD h2
      rw [e] at this; exact this
    · have := idx16_le c; omega

theorem byte_split (b : UInt8) : (16 * (b.toNat / 16) + b.toNat % 16).toUInt8 = b := by
  have : 16 * (b.toNat / 16) + b.toNat % 16 = b.toNat := by omega
  rw [this]; simp
theorem byte_join {h l : Nat} (hh : h < 16) (hl : l < 16) : (16 * h + l).toUInt8.toNat = 16 * h + l := by
  simp only [Nat.toUInt8_eq, UInt8.toNat_ofNat']; omega

def firstB : List UInt8 → Option (UInt8 × Nat)
  | [] => none
  | c :: r => if bareB c = true then some (c, 1) else
    match r with
    | e :: h :: l :: _ => if c = 92 ∧ e = 120 ∧ idx16 h < 16 ∧ idx16 l < 16 ∧ bareB (16 * idx16 h + idx16 l).toUInt8 = false then some ((16 * idx16 h + idx16 l).toUInt8, 4) else none
    | _ => none

theorem bareB_92 : bareB 92 = false := by decide

theorem firstB_form (b : UInt8) (t : List UInt8) : firstB (formB b ++ t) = some (b, (formB b).length) := by
  cases hb : bareB b
  · have h1 : b.toNat / 16 < 16 := by have := b.toNat_lt; omega
    have h2 : b.toNat % 16 < 16 := by omega
    rw [formB_hex hb]
    have hs := byte_split b
    simp only [List.cons_append, List.nil_append, firstB, bareB_92, idx16_hexD h1, idx16_hexD h2, h1, h2, hs, hb, Bool.false_eq_true, if_false, and_self, if_true]
    rfl
  · rw [formB_bare hb]; simp [firstB, hb]

theorem firstB_some {l : List UInt8} {b : UInt8} {k : Nat} (h : firstB l = some (b, k)) : k = (formB b).length ∧ l = formB b ++ l.drop k := by
  cases l with
  | nil => simp [firstB] at h
  | cons c r =>
    cases hc : bareB c
    · revert h
      match r with
      | [] => intro h; simp [firstB, hc] at h
      | [_] => intro h; simp [firstB, hc] at h
      | [_, _] => intro h; simp [firstB, hc] at h
      | e :: hi :: lo :: t =>
        intro h
        have hE : firstB (c :: e :: hi :: lo :: t) = if bareB c = true then some (c, 1) else if c = 92 ∧ e = 120 ∧ idx16 hi < 16 ∧ idx16 lo < 16 ∧ bareB (16 * idx16 hi + idx16 lo).toUInt8 = false then some ((16 * idx16 hi + idx16 lo).toUInt8, 4) else none := rfl
        rw [hE, if_neg (by simp [hc])] at h
        split at h
        · rename_i hh
          obtain ⟨rfl, rfl, h1, h2, hb⟩ := hh
          injection h with h
          injection h with ha hk
          subst ha hk
          have e := byte_join h1 h2
          have e1 : (16 * idx16 hi + idx16 lo) / 16 = idx16 hi := by omega
          have e2 : (16 * idx16 hi + idx16 lo) % 16 = idx16 lo := by omega
          rw [formB_hex hb, e, e1, e2, hexD_idx16 h1, hexD_idx16 h2]
          simp
        · cases h
    · simp only [firstB, hc, if_true, Option.some.injEq, Prod.mk.injEq] at h
      obtain ⟨rfl, rfl⟩ := h
      simp [formB_bare hc]

theorem formsB_cons (b : UInt8) (x : List UInt8) : formsB (b :: x) = formB b ++ formsB x := by simp [formsB]
theorem formsB_append (x y : List UInt8) : formsB (x ++ y) = formsB x ++ formsB y := by simp [formsB]

/-- What stands behind the forms of x is the forms of the rest. -/
theorem formsB_split : ∀ (x y r : List UInt8), formsB y = formsB x ++ r → ∃ z, y = x ++ z ∧ formsB z = r
  | [], y, r, h => ⟨y, rfl, by simpa [formsB] using h⟩
  | b :: x, y, r, h => by
    rw [formsB_cons, List.append_assoc] at h
    have h1 := firstB_form b (formsB x ++ r)
    rw [← h] at h1
    cases y with
    | nil =>
      have h2 : formsB ([] : List UInt8) = [] := rfl
      rw [h2] at h1; cases h1
    | cons c y =>
      rw [formsB_cons, firstB_form] at h1
      simp only [Option.some.injEq, Prod.mk.injEq] at h1
      obtain ⟨rfl, _⟩ := h1
      rw [formsB_cons] at h
      obtain ⟨z, rfl, hz⟩ := formsB_split x y r (List.append_cancel_left h)
      exact ⟨z, rfl, hz⟩

theorem formsB_inj {x y : List UInt8} (h : formsB x = formsB y) : x = y := by
  obtain ⟨z, rfl, hz⟩ := formsB_split y x [] (by simpa using h)
  cases z with
  | nil => simp
  | cons c z => rw [formsB_cons] at hz; have := formB_pos c; simp at hz; simp [hz.1] at this

theorem quoteB_inj {x y : List UInt8} (h : quoteB x = quoteB y) : x = y := by
  simp only [quoteB, List.cons.injEq, true_and] at h
  exact formsB_inj (List.append_cancel_right h)

/-- What is read between the marks. -/
def readF : Nat → List UInt8 → Option (List UInt8)
  | _, [] => some []
  | 0, _ :: _ => none
  | n + 1, c :: r => match firstB (c :: r) with
    | none => none
    | some (b, k) => (readF n ((c :: r).drop k)).map (b :: ·)

theorem readF_forms : ∀ (x : List UInt8) (n : Nat), (formsB x).length ≤ n → readF n (formsB x) = some x
  | [], n, _ => by cases n <;> rfl
  | b :: x, n, h => by
    rw [formsB_cons] at h ⊢
    have hp := formB_pos b
    have hf := firstB_form b (formsB x)
    match e : formB b, n with
    | [], _ => simp [e] at hp
    | c :: t, 0 => simp [e] at h
    | c :: t, n + 1 =>
      rw [e] at hf h
      simp only [List.cons_append] at hf ⊢
      have hd : (c :: (t ++ formsB x)).drop (c :: t).length = formsB x := by rw [← List.cons_append]; exact List.drop_left
      simp only [readF, hf, hd]
      rw [readF_forms x n (by simp at h; omega)]
      rfl

theorem readF_some : ∀ (n : Nat) (l x : List UInt8), readF n l = some x → formsB x = l
  | _, [], x, h => by simp [readF] at h; subst h; rfl
  | 0, _ :: _, x, h => by simp [readF] at h
  | n + 1, c :: r, x, h => by
    simp only [readF] at h
    split at h
    · cases h
    · rename_i b k hf
      obtain ⟨y, hy, rfl⟩ := Option.map_eq_some_iff.1 h
      rw [formsB_cons, readF_some n _ y hy]
      exact (firstB_some hf).2.symm

/-- The text that is quoted as l, if there is one. -/
def unquoteB : List UInt8 → Option (List UInt8)
  | [] => none
  | c :: r => if c = 34 ∧ r.getLast? = some 34 then readF r.length r.dropLast else none

theorem unquoteB_quote (x : List UInt8) : unquoteB (quoteB x) = some x := by
  simp only [quoteB, unquoteB, List.getLast?_append, List.getLast?_singleton, Option.some_or, and_self, if_true, List.dropLast_concat]
  exact readF_forms x _ (by simp)
theorem unquoteB_some {l x : List UInt8} (h : unquoteB l = some x) : quoteB x = l := by
  cases l with
  | nil => cases h
  | cons c r =>
    simp only [unquoteB] at h
    split at h
    · rename_i hc
      obtain ⟨rfl, hl⟩ := hc
      rw [quoteB, readF_some _ _ _ h]
      congr 1
      have hne : r ≠ [] := by rintro rfl; simp at hl
      have := List.dropLast_concat_getLast hne
      rw [List.getLast?_eq_some_getLast hne] at hl
      simp only [Option.some.injEq] at hl
      rw [hl] at this; exact this
    · cases h
theorem unquoteB_of {l x : List UInt8} (h : quoteB x = l) : unquoteB l = some x := by rw [← h]; exact unquoteB_quote x
theorem unquoteB_none {l : List UInt8} (h : ∀ x, quoteB x ≠ l) : unquoteB l = none := by
  cases e : unquoteB l with
  | none => rfl
  | some x => exact absurd (unquoteB_some e) (h x)

/-- A word: plain, or quoted. -/
def wordB (l : List UInt8) : Bool := plainB l || (unquoteB l).isSome
end Go.Proofs.YtboceckeebhfoaaDoor

/- Commands read of their words, as lists. No program's function. -/
set_option linter.unusedVariables false
set_option linter.unusedSimpArgs false
namespace Go.Proofs.YtboceckeebhfoaaDoor

structure CmdV where
  kind : Int
  opts : List UInt8
  ops : List (List UInt8)
deriving DecidableEq

def nameK (k : Int) : List UInt8 := if k = 1 then [109, 107, 100, 105, 114] else if k = 2 then [114, 109] else if k = 3 then [108, 110] else if k = 4 then [109, 118] else if k = 5 then [99, 112] else []
def allK (k : Int) : List UInt8 := if k = 1 then [112] else if k = 2 then [100, 102, 114, 82] else if k = 3 then [102, 110, 115, 84] else if k = 4 then [102, 110, 84] else if k = 5 then [102, 110, 114, 82, 80, 84] else []
def kindF (w : List UInt8) : Int := if w = nameK 1 then 1 else if w = nameK 2 then 2 else if w = nameK 3 then 3 else if w = nameK 4 then 4 else if w = nameK 5 then 5 else 0
theorem kind_cases (w : List UInt8) : kindF w = 0 ∨ kindF w = 1 ∨ kindF w = 2 ∨ kindF w = 3 ∨ kindF w = 4 ∨ kindF w = 5 := by
  unfold kindF
  repeat' split
  all_goals simp
theorem kind_name {k : Int} (h1 : 1 ≤ k) (h2 : k ≤ 5) : kindF (nameK k) = k := by
  obtain rfl | rfl | rfl | rfl | rfl : k = 1 ∨ k = 2 ∨ k = 3 ∨ k = 4 ∨ k = 5 := by omega
  all_goals decide
theorem name_kind {w : List UInt8} (h : kindF w ≠ 0) : nameK (kindF w) = w := by
  unfold kindF at h ⊢
  repeat' split
  all_goals first | (rename_i h; exact h.symm) | skip
  all_goals simp_all

/-- A word's letters behind its -: those up to the first one that is none, and that one. -/
def scanW (all : List UInt8) : List UInt8 → List UInt8 × List UInt8
  | [] => ([], [])
  | c :: t => if all.contains c = true then (c :: (scanW all t).1, (scanW all t).2) else ([], [c])
theorem scan_yes {all : List UInt8} {c : UInt8} (t : List UInt8) (h : all.contains c = true) : scanW all (c :: t) = (c :: (scanW all t).1, (scanW all t).2) := by rw [scanW, if_pos h]
theorem scan_no {all : List UInt8} {c : UInt8} (t : List UInt8) (h : all.contains c = false) : scanW all (c :: t) = ([], [c]) := by rw [scanW, if_neg (by rw [h]; simp)]
theorem scan_all {all : List UInt8} : ∀ {t : List UInt8}, (∀ c ∈ t, all.contains c = true) → scanW all t = (t, [])
  | [], _ => rfl
  | c :: t, h => by rw [scan_yes t (h c List.mem_cons_self), scan_all fun d hd => h d (List.mem_cons_of_mem _ hd)]
def optW (w : List UInt8) : Bool := decide (2 ≤ w.length) && w.head? == some 45
/-- The letters of words of options, how many words these are, and the first letter that is none. -/
def lettersN (all : List UInt8) : List (List UInt8) → List UInt8 × Nat × List UInt8
  | [] => ([], 0, [])
  | w :: t =>
    if w = [45, 45] then ([], 1, [])
    else if optW w = false then ([], 0, [])
    else if (scanW all (w.drop 1)).2 ≠ [] then ((scanW all (w.drop 1)).1, 0, (scanW all (w.drop 1)).2)
    else ((scanW all (w.drop 1)).1 ++ (lettersN all t).1, (lettersN all t).2.1 + 1, (lettersN all t).2.2)
def lastF (pair s : List UInt8) : UInt8 := s.foldl (fun c x => if pair.contains x = true then x else c) 0
theorem last_snoc (pair s : List UInt8) (x : UInt8) : lastF pair (s ++ [x]) = if pair.contains x = true then x else lastF pair s := by
  unfold lastF; rw [List.foldl_append]; rfl
def isO (k : Int) (s : List UInt8) (x : UInt8) : Bool :=
  if 4 ≤ k ∧ (x = 102 ∨ x = 110) then lastF [102, 110] s == x
  else if x = 114 then s.contains 114 || s.contains 82
  else if x = 82 then false
  else s.contains x
def optionsK (k : Int) (s : List UInt8) (n : Nat) : List UInt8 := ((List.range n).map (fun i => UInt8.ofNat (65 + i))).filter (isO k s)
def optionsF (k : Int) (s : List UInt8) : List UInt8 := optionsK k s 58
theorem options_succ (k : Int) (s : List UInt8) (n : Nat) : optionsK k s (n + 1) = optionsK k s n ++ if isO k s (UInt8.ofNat (65 + n)) = true then [UInt8.ofNat (65 + n)] else [] := by
  unfold optionsK
  rw [List.range_succ, List.map_append, List.filter_append]
  congr 1
  simp only [List.map_cons, List.map_nil, List.filter_cons, List.filter_nil]
theorem options_len (k : Int) (s : List UInt8) (n : Nat) : (optionsK k s n).length ≤ n := by
  unfold optionsK
  refine Nat.le_trans (List.length_filter_le _ _) ?_
  simp
def sMissing : List UInt8 := [109, 105, 115, 115, 105, 110, 103, 32, 99, 111, 109, 109, 97, 110, 100]
def sUnknown : List UInt8 := [58, 32, 117, 110, 107, 110, 111, 119, 110, 32, 99, 111, 109, 109, 97, 110, 100]
def sInvalid : List UInt8 := [58, 32, 105, 110, 118, 97, 108, 105, 100, 32, 111, 112, 116, 105, 111, 110, 32]
def sOperand : List UInt8 := [58, 32, 109, 105, 115, 115, 105, 110, 103, 32, 111, 112, 101, 114, 97, 110, 100]
def sDest : List UInt8 := [58, 32, 109, 105, 115, 115, 105, 110, 103, 32, 100, 101, 115, 116, 105, 110, 97, 116, 105, 111, 110, 32, 111, 112, 101, 114, 97, 110, 100, 32, 97, 102, 116, 101, 114, 32]
def sExtra : List UInt8 := [58, 32, 101, 120, 116, 114, 97, 32, 111, 112, 101, 114, 97, 110, 100, 32]
def noC : CmdV := ⟨0, [], []⟩
def leastF (k : Int) (o : List UInt8) : Nat := if 4 ≤ k ∨ o.contains 84 = true then 2 else 1
/-- What a command's operands come to. -/
def opsF (k : Int) (w o : List UInt8) (ops : List (List UInt8)) : CmdV × List UInt8 :=
  if ops = [] ∧ ¬ (k = 2 ∧ o.contains 102 = true) then (noC, w ++ sOperand)
  else if ops ≠ [] ∧ ops.length < leastF k o then (noC, w ++ sDest ++ quoteB (ops.getLastD []))
  else if 2 < ops.length ∧ o.contains 84 = true then (noC, w ++ sExtra ++ quoteB (ops.getD 2 []))
  else (⟨k, o, ops⟩, [])
def readA : List (List UInt8) → CmdV × List UInt8
  | [] => (noC, sMissing)
  | w :: t =>
    if kindF w = 0 then (noC, quoteB w ++ sUnknown)
    else if (lettersN (allK (kindF w)) t).2.2 ≠ [] then (noC, w ++ sInvalid ++ quoteB (lettersN (allK (kindF w)) t).2.2)
    else opsF (kindF w) w (optionsF (kindF w) (lettersN (allK (kindF w)) t).1) (t.drop (lettersN (allK (kindF w)) t).2.1)

/-! ### The letters, word by word -/
structure LetAt (all : List UInt8) (l : List (List UInt8)) (n : Nat) (s : List UInt8) : Prop where
  le : n ≤ l.length
  eq : lettersN all l = (s ++ (lettersN all (l.drop n)).1, n + (lettersN all (l.drop n)).2.1, (lettersN all (l.drop n)).2.2)
theorem let_start (all : List UInt8) (l : List (List UInt8)) : LetAt all l 0 [] := ⟨Nat.zero_le _, by simp⟩
theorem let_end {all : List UInt8} {l : List (List UInt8)} {s : List UInt8} (h : LetAt all l l.length s) : lettersN all l = (s, l.length, []) := by
  have := h.eq
  rw [List.drop_length] at this
  simpa [lettersN] using this
theorem let_dash {all : List UInt8} {l : List (List UInt8)} {n : Nat} {s : List UInt8} (h : LetAt all l n s) (hn : n < l.length) (e : l[n] = [45, 45]) : lettersN all l = (s, n + 1, []) := by
  have := h.eq
  rw [List.drop_eq_getElem_cons hn, e] at this
  simpa [lettersN] using this
theorem let_word {all : List UInt8} {l : List (List UInt8)} {n : Nat} {s : List UInt8} (h : LetAt all l n s) (hn : n < l.length) (e : ¬ l[n] = [45, 45]) (e2 : optW l[n] = false) : lettersN all l = (s, n, []) := by
  have := h.eq
  rw [List.drop_eq_getElem_cons hn, lettersN, if_neg e, if_pos e2] at this
  simpa using this
theorem let_bad {all : List UInt8} {l : List (List UInt8)} {n : Nat} {s : List UInt8} (h : LetAt all l n s) (hn : n < l.length) (e : ¬ l[n] = [45, 45]) (e2 : optW l[n] = true) (e3 : (scanW all (l[n].drop 1)).2 ≠ []) : lettersN all l = (s ++ (scanW all (l[n].drop 1)).1, n, (scanW all (l[n].drop 1)).2) := by
  have := h.eq
  rw [List.drop_eq_getElem_cons hn, lettersN, if_neg e, if_neg (by rw [e2]; simp), if_pos e3] at this
  simpa using this
theorem let_next {all : List UInt8} {l : List (List UInt8)} {n : Nat} {s : List UInt8} (h : LetAt all l n s) (hn : n < l.length) (e : ¬ l[n] = [45, 45]) (e2 : optW l[n] = true) (e3 : (scanW all (l[n].drop 1)).2 = []) : LetAt all l (n + 1) (s ++ (scanW all (l[n].drop 1)).1) := by
  refine ⟨hn, ?_⟩
  have := h.eq
  rw [List.drop_eq_getElem_cons hn, lettersN, if_neg e, if_neg (by rw [e2]; simp), if_neg (fun c => c e3)] at this
  rw [this]
  simp only [List.append_assoc]
  congr 2
  omega
/-- Within a word: the letters up to i are read. -/
structure ScanAt (all t : List UInt8) (i : Nat) : Prop where
  le : i ≤ t.length
  all' : ∀ c ∈ t.take i, all.contains c = true
theorem scan_start (all t : List UInt8) : ScanAt all t 0 := ⟨Nat.zero_le _, by simp⟩
theorem scan_next {all t : List UInt8} {i : Nat} (h : ScanAt all t i) (hi : i < t.length) (hc : all.contains t[i] = true) : ScanAt all t (i + 1) := by
  refine ⟨hi, fun c hcm => ?_⟩
  rw [List.take_succ_eq_append_getElem hi, List.mem_append] at hcm
  rcases hcm with hcm | hcm
  · exact h.all' c hcm
  · rw [List.mem_singleton.1 hcm]; exact hc
theorem scan_split {all : List UInt8} : ∀ {p q : List UInt8}, (∀ c ∈ p, all.contains c = true) → scanW all (p ++ q) = (p ++ (scanW all q).1, (scanW all q).2)
  | [], _, _ => rfl
  | c :: p, q, h => by rw [List.cons_append, scan_yes _ (h c List.mem_cons_self), scan_split fun d hd => h d (List.mem_cons_of_mem _ hd)]; rfl
theorem scan_end {all t : List UInt8} (h : ScanAt all t t.length) : scanW all t = (t, []) := scan_all fun c hc => h.all' c (by rwa [List.take_length])
theorem scan_stop {all t : List UInt8} {i : Nat} (h : ScanAt all t i) (hi : i < t.length) (hc : all.contains t[i] = false) : scanW all t = (t.take i, [t[i]]) := by
  have := scan_split (q := t.drop i) h.all'
  rw [List.take_append_drop, List.drop_eq_getElem_cons hi, scan_no _ hc, List.append_nil] at this
  exact this

/-! ### Sizes -/
theorem letters_len (all : List UInt8) (m : Nat) : ∀ {l : List (List UInt8)}, (∀ w ∈ l, w.length ≤ m) → (lettersN all l).1.length ≤ l.length * m ∧ (lettersN all l).2.1 ≤ l.length ∧ (lettersN all l).2.2.length ≤ 1
  | [], _ => by simp [lettersN]
  | w :: t, h => by
    have ih := letters_len all m (l := t) fun x hx => h x (List.mem_cons_of_mem _ hx)
    have hw := h w List.mem_cons_self
    have hs : ∀ u : List UInt8, (scanW all u).1.length ≤ u.length ∧ (scanW all u).2.length ≤ 1 := by
      intro u
      induction u with
      | nil => simp [scanW]
      | cons c u ih =>
        rw [scanW]
        split
        · simp; omega
        · simp
    have h1 := hs (w.drop 1)
    rw [List.length_drop] at h1
    have h2 : (t.length + 1) * m = t.length * m + m := Nat.succ_mul _ _
    rw [lettersN]
    split
    · simp
    split
    · simp
    split
    · simp only [List.length_cons]; omega
    · simp only [List.length_cons, List.length_append]; omega

/-! ### In whatever order -/
theorem scan_mem {all : List UInt8} : ∀ {t : List UInt8} {c : UInt8}, c ∈ (scanW all t).1 → all.contains c = true
  | [], _, h => (nomatch h)
  | d :: t, c, h => by
    rw [scanW] at h
    split at h
    · rename_i hd
      rcases List.mem_cons.1 h with rfl | h
      · exact hd
      · exact scan_mem h
    · cases h
theorem letters_dash (all : List UInt8) (ops : List (List UInt8)) : lettersN all ([45, 45] :: ops) = ([], 1, []) := by rw [lettersN, if_pos rfl]
/-- Letters in one word. -/
theorem letters_one {all ls : List UInt8} (h : ∀ c ∈ ls, all.contains c = true) (hd : all.contains 45 = false) (hne : ls ≠ []) (ops : List (List UInt8)) : lettersN all ((45 :: ls) :: [45, 45] :: ops) = (ls, 2, []) := by
  have hw : ¬ (45 :: ls = [45, 45]) := by
    intro e
    have : ls = [45] := (List.cons.inj e).2
    subst this
    rw [h 45 (by simp)] at hd
    cases hd
  have ho : optW (45 :: ls) = true := by
    cases ls with
    | nil => exact absurd rfl hne
    | cons => simp [optW]
  rw [lettersN, if_neg hw, if_neg (by rw [ho]; simp), if_neg (by rw [List.drop_one, List.tail_cons, scan_all h]; simp), List.drop_one, List.tail_cons, scan_all h, letters_dash]
  simp
/-- Letters in words of their own. -/
theorem letters_each {all : List UInt8} (hd : all.contains 45 = false) (ops : List (List UInt8)) : ∀ {ls : List UInt8}, (∀ c ∈ ls, all.contains c = true) → lettersN all (ls.map (fun c => [45, c]) ++ [45, 45] :: ops) = (ls, ls.length + 1, [])
  | [], _ => letters_dash all ops
  | c :: ls, h => by
    have hc := h c List.mem_cons_self
    have hw : ¬ ([45, c] = [45, 45]) := by
      intro e
      have : c = 45 := by simpa using e
      rw [this, hd] at hc; cases hc
    have ih := letters_each hd ops (ls := ls) fun d hd => h d (List.mem_cons_of_mem _ hd)
    have hs : scanW all [c] = ([c], []) := scan_all fun d hd => by rw [List.mem_singleton.1 hd]; exact hc
    rw [List.map_cons, List.cons_append, lettersN, if_neg hw, if_neg (by simp [optW]), if_neg (by rw [List.drop_one, List.tail_cons, hs]; simp), List.drop_one, List.tail_cons, hs, ih]
    simp
/-- What options letters come to lies in which letters stand, where of no pair two do. -/
theorem options_same {k : Int} {s t : List UInt8} (h : ∀ c, c ∈ s ↔ c ∈ t) (hp : 4 ≤ k → ¬ (110 : UInt8) ∈ s) : optionsF k s = optionsF k t := by
  have hc : ∀ c : UInt8, s.contains c = t.contains c := fun c => by
    rw [Bool.eq_iff_iff, List.contains_iff_mem, List.contains_iff_mem]; exact h c
  have hl : ∀ {u : List UInt8}, ¬ (110 : UInt8) ∈ u → lastF [102, 110] u = if (102 : UInt8) ∈ u then 102 else 0 := by
    intro u
    have key : ∀ (u : List UInt8) (z : UInt8), ¬ (110 : UInt8) ∈ u → u.foldl (fun c x => if ([102, 110] : List UInt8).contains x = true then x else c) z = if (102 : UInt8) ∈ u then 102 else z := by
      intro u
      induction u with
      | nil => intro z _; simp
      | cons x u ih =>
        intro z hn
        have hx : x ≠ 110 := fun e => hn (e ▸ List.mem_cons_self)
        rw [List.foldl_cons, ih _ fun hm => hn (List.mem_cons_of_mem _ hm)]
        by_cases h2 : x = 102
        · subst h2; simp
        · have : ([102, 110] : List UInt8).contains x = false := by simp [h2, hx]
          rw [this]
          simp [Ne.symm h2]
    exact key u 0
  have hiso : ∀ x, isO k s x = isO k t x := by
    intro x
    unfold isO
    split
    · rename_i c
      have hs := hp c.1
      have ht : ¬ (110 : UInt8) ∈ t := fun m => hs ((h _).2 m)
      rw [hl hs, hl ht]
      have := h 102
      by_cases m : (102 : UInt8) ∈ s
      · rw [if_pos m, if_pos (this.1 m)]
      · rw [if_neg m, if_neg fun m2 => m (this.2 m2)]
    · simp only [hc]
  unfold optionsF optionsK
  exact congrArg (fun f => List.filter f _) (funext hiso)
end Go.Proofs.YtboceckeebhfoaaDoor

/- What the laws of stage 17 ask of commands. No program's function. -/
set_option linter.unusedVariables false
set_option linter.unusedSimpArgs false
namespace Go.Proofs.YtboceckeebhfoaaDoor

/-- The letters that the law draws. -/
def allL (k : Int) : List UInt8 := if k = 1 then [112] else if k = 2 then [100, 102, 114] else if k = 3 then [102, 110, 115, 84] else if k = 4 then [102, 84] else if k = 5 then [102, 114, 80, 84] else []
theorem allL_in {k : Int} (h1 : 1 ≤ k) (h2 : k ≤ 5) : (∀ c ∈ allL k, (allK k).contains c = true) ∧ (allK k).contains 45 = false ∧ (4 ≤ k → ¬ (110 : UInt8) ∈ allL k) ∧ 1 ≤ (allL k).length ∧ (allL k).length ≤ 4 := by
  obtain rfl | rfl | rfl | rfl | rfl : k = 1 ∨ k = 2 ∨ k = 3 ∨ k = 4 ∨ k = 5 := by omega
  all_goals decide
def argA (k : Int) (ls : List UInt8) (ops : List (List UInt8)) : List (List UInt8) := nameK k :: ((if ls = [] then [] else [45 :: ls]) ++ [45, 45] :: ops)
def argB (k : Int) (ls : List UInt8) (ops : List (List UInt8)) : List (List UInt8) := nameK k :: (ls.map (fun c => [45, c]) ++ [45, 45] :: ops)
theorem read_cons (w : List UInt8) (t : List (List UInt8)) : readA (w :: t) = if kindF w = 0 then (noC, quoteB w ++ sUnknown)
    else if (lettersN (allK (kindF w)) t).2.2 ≠ [] then (noC, w ++ sInvalid ++ quoteB (lettersN (allK (kindF w)) t).2.2)
    else opsF (kindF w) w (optionsF (kindF w) (lettersN (allK (kindF w)) t).1) (t.drop (lettersN (allK (kindF w)) t).2.1) := rfl
theorem read_of {k : Int} (h1 : 1 ≤ k) (h2 : k ≤ 5) {t : List (List UInt8)} {s : List UInt8} {n : Nat} (h : lettersN (allK k) t = (s, n, [])) : readA (nameK k :: t) = opsF k (nameK k) (optionsF k s) (t.drop n) := by
  rw [read_cons, kind_name h1 h2, if_neg (by omega), h, if_neg (by simp)]
theorem read_a {k : Int} (h1 : 1 ≤ k) (h2 : k ≤ 5) {ls : List UInt8} (h : ∀ c ∈ ls, c ∈ allL k) (ops : List (List UInt8)) : readA (argA k ls ops) = opsF k (nameK k) (optionsF k ls) ops := by
  obtain ⟨g1, g2, _⟩ := allL_in h1 h2
  unfold argA
  by_cases e : ls = []
  · subst e
    rw [if_pos rfl, List.nil_append, read_of h1 h2 (letters_dash _ _)]
    rfl
  · rw [if_neg e, List.singleton_append, read_of h1 h2 (letters_one (fun c hc => g1 c (h c hc)) g2 e ops)]
    rfl
theorem read_b {k : Int} (h1 : 1 ≤ k) (h2 : k ≤ 5) {ls : List UInt8} (h : ∀ c ∈ ls, c ∈ allL k) (ops : List (List UInt8)) : readA (argB k ls ops) = opsF k (nameK k) (optionsF k ls) ops := by
  obtain ⟨g1, g2, _⟩ := allL_in h1 h2
  unfold argB
  rw [read_of h1 h2 (letters_each g2 ops fun c hc => g1 c (h c hc))]
  congr 1
  rw [show ls.length + 1 = (ls.map (fun c => [45, c])).length + 1 by rw [List.length_map], List.drop_append]
  simp
theorem read_r {k : Int} (h1 : 1 ≤ k) (h2 : k ≤ 5) {ls : List UInt8} (h : ∀ c ∈ ls, c ∈ allL k) (ops : List (List UInt8)) : readA (argA k ls.reverse ops) = opsF k (nameK k) (optionsF k ls) ops := by
  rw [read_a h1 h2 (fun c hc => h c (List.mem_reverse.1 hc))]
  congr 1
  exact options_same (fun c => List.mem_reverse) fun h4 hm => (allL_in h1 h2).2.2.1 h4 (h _ (List.mem_reverse.1 hm))
theorem ops_two (k : Int) (w o : List UInt8) (ops : List (List UInt8)) : ((opsF k w o ops).2 ≠ [] ∧ (opsF k w o ops).1 = noC) ∨ opsF k w o ops = (⟨k, o, ops⟩, []) := by
  unfold opsF
  split
  · left; simp [sOperand]
  split
  · left; simp [sDest]
  split
  · left; simp [sExtra]
  · right; rfl
theorem options_nil (k : Int) : optionsF k [] = [] := by
  unfold optionsF optionsK
  rw [List.filter_eq_nil_iff]
  intro x hx
  obtain ⟨i, hi, rfl⟩ := List.mem_map.1 hx
  have hi := List.mem_range.1 hi
  have h0 : ¬ (0 : UInt8) = UInt8.ofNat (65 + i) := by
    intro e
    have := congrArg UInt8.toNat e
    simp at this
    omega
  unfold isO
  split
  · simpa [lastF] using h0
  split
  · simp
  split
  · simp
  · simp
theorem read_first {k : Int} (h1 : 1 ≤ k) (h2 : k ≤ 5) {f : List UInt8} (hf : ¬ (1 < f.length ∧ f.head? = some 45)) (rest : List (List UInt8)) : readA (nameK k :: f :: rest) = if 4 ≤ k ∧ rest = [] then (noC, nameK k ++ sDest ++ quoteB f) else (⟨k, [], f :: rest⟩, []) := by
  have hw : ¬ f = [45, 45] := fun e => hf (by subst e; exact ⟨by decide, rfl⟩)
  have ho : optW f = false := by
    unfold optW
    cases hd : decide (2 ≤ f.length)
    · rfl
    · have := of_decide_eq_true hd
      rw [Bool.true_and]
      exact beq_eq_false_iff_ne.2 fun e => hf ⟨by omega, e⟩
  rw [read_of h1 h2 (s := []) (n := 0) (by rw [lettersN, if_neg hw, if_pos ho]), options_nil, List.drop_zero]
  unfold opsF
  rw [if_neg (by simp)]
  by_cases h4 : 4 ≤ k
  · have hl : leastF k [] = 2 := by unfold leastF; rw [if_pos (.inl h4)]
    rw [hl]
    by_cases hr : rest = []
    · subst hr
      rw [if_pos ⟨by simp, by simp⟩, if_pos ⟨h4, rfl⟩]
      rfl
    · have : 1 ≤ rest.length := by cases rest with | nil => exact absurd rfl hr | cons => simp
      rw [if_neg (fun c => by have := c.2; simp at this; omega), if_neg (by simp), if_neg (fun c => hr c.2)]
  · have hl : leastF k [] = 1 := by unfold leastF; rw [if_neg (by simp [h4])]
    rw [hl, if_neg (fun c => by have := c.2; simp at this), if_neg (by simp), if_neg (fun c => h4 c.1)]
end Go.Proofs.YtboceckeebhfoaaDoor

/- What the program keeps of letters: which are given. No program's function. -/
set_option linter.unusedVariables false
set_option linter.unusedSimpArgs false
namespace Go.Proofs.YtboceckeebhfoaaDoor

theorem isO_snoc (k : Int) (s : List UInt8) (c x : UInt8) : isO k (s ++ [c]) x =
    if c = 82 then (if x = 114 then true else isO k s x)
    else if 4 ≤ k ∧ c = 102 then (if x = 102 then true else if x = 110 then false else isO k s x)
    else if 4 ≤ k ∧ c = 110 then (if x = 110 then true else if x = 102 then false else isO k s x)
    else if x = c then true else isO k s x := by
  have hc : ∀ y : UInt8, (s ++ [c]).contains y = (s.contains y || y == c) := by
    intro y
    rw [Bool.eq_iff_iff]; simp
  have hp : ([102, 110] : List UInt8).contains c = (c == 102 || c == 110) := by
    rw [Bool.eq_iff_iff]; simp
  have nb : ∀ {a b : UInt8}, ¬ a = b → (a == b) = false := fun h => beq_eq_false_iff_ne.2 h
  unfold isO
  rw [last_snoc, hp]
  simp only [hc]
  clear hc hp
  by_cases c82 : c = 82
  · subst c82
    by_cases x114 : x = 114
    · subst x114
      rw [if_pos rfl, if_pos rfl, if_neg (by rintro ⟨_, h | h⟩ <;> cases h), if_pos rfl]
      simp
    · by_cases x82 : x = 82
      · subst x82; simp
      · rw [if_pos rfl, if_neg x114, if_neg x114, if_neg x114, if_neg x82, if_neg x82, nb x82, Bool.or_false]
        rfl
  rw [if_neg c82]
  by_cases h4 : 4 ≤ k
  · by_cases c102 : c = 102
    · subst c102
      by_cases x102 : x = 102
      · subst x102; simp [h4]
      · by_cases x110 : x = 110
        · subst x110; simp [h4]
        · simp [h4, x102, x110, nb x102]
    · by_cases c110 : c = 110
      · subst c110
        by_cases x102 : x = 102
        · subst x102; simp [h4]
        · by_cases x110 : x = 110
          · subst x110; simp [h4]
          · simp [h4, x102, x110, nb x110]
      · have f1 : ¬ (4 ≤ k ∧ c = 102) := fun h => c102 h.2
        have f2 : ¬ (4 ≤ k ∧ c = 110) := fun h => c110 h.2
        simp only [if_neg f1, if_neg f2, nb c102, nb c110, Bool.or_false, Bool.false_eq_true, if_false]
        by_cases xc : x = c
        · subst xc
          have f3 : ¬ (4 ≤ k ∧ (x = 102 ∨ x = 110)) := fun h => h.2.elim c102 c110
          simp only [if_neg f3, if_true]
          by_cases x114 : x = 114
          · subst x114; simp
          · simp [x114, c82]
        · rw [if_neg xc]
          by_cases x114 : x = 114
          · subst x114
            simp [nb xc, nb (Ne.symm c82)]
          · simp [x114, nb xc]
  · have f1 : ¬ (4 ≤ k ∧ c = 102) := fun h => h4 h.1
    have f2 : ¬ (4 ≤ k ∧ c = 110) := fun h => h4 h.1
    have f3 : ¬ (4 ≤ k ∧ (x = 102 ∨ x = 110)) := fun h => h4 h.1
    simp only [if_neg f1, if_neg f2, if_neg f3]
    by_cases xc : x = c
    · subst xc
      rw [if_pos rfl]
      by_cases x114 : x = 114
      · subst x114; simp
      · simp [x114, c82]
    · rw [if_neg xc]
      by_cases x114 : x = 114
      · subst x114
        simp [nb xc, nb (Ne.symm c82)]
      · simp [x114, nb xc]
theorem isO_nil (k : Int) (x : UInt8) : isO k [] x = false := by
  unfold isO
  split
  · rename_i h
    rcases h.2 with rfl | rfl <;> decide
  · split
    · rfl
    · split <;> rfl

/-- Which of 256 letters are given. -/
def marks (k : Int) (s : List UInt8) : List Bool := (List.range 256).map fun i => isO k s (UInt8.ofNat i)
theorem marks_len (k : Int) (s : List UInt8) : (marks k s).length = 256 := by simp [marks]
theorem marks_at (k : Int) (s : List UInt8) (i : Nat) (h : i < (marks k s).length) : (marks k s)[i] = isO k s (UInt8.ofNat i) := by simp [marks]
theorem marks_nil (k : Int) : marks k [] = List.replicate 256 false := by
  refine List.ext_getElem (by rw [marks_len, List.length_replicate]) fun i h1 h2 => ?_
  rw [marks_at, isO_nil, List.getElem_replicate]
theorem ofNat_eq {i : Nat} (h : i < 256) (c : UInt8) : UInt8.ofNat i = c ↔ c.toNat = i := by
  constructor
  · rintro rfl; simp; omega
  · intro e; rw [← e]; simp
theorem marks_r (k : Int) (s : List UInt8) : marks k (s ++ [82]) = (marks k s).set 114 true := by
  refine List.ext_getElem (by simp [marks]) fun i h1 h2 => ?_
  rw [marks_len] at h1
  rw [marks_at, isO_snoc, if_pos rfl, List.getElem_set]
  by_cases h : i = 114
  · subst h; rw [if_pos (by decide), if_pos rfl]
  · rw [if_neg (fun e => h (by have := (ofNat_eq h1 114).1 e; rw [← this]; rfl)), if_neg (Ne.symm h), marks_at]
theorem marks_f {k : Int} (hk : 4 ≤ k) (s : List UInt8) : marks k (s ++ [102]) = ((marks k s).set 110 false).set 102 true := by
  refine List.ext_getElem (by simp [marks]) fun i h1 h2 => ?_
  rw [marks_len] at h1
  rw [marks_at, isO_snoc, if_neg (by decide), if_pos ⟨hk, rfl⟩, List.getElem_set, List.getElem_set]
  by_cases h : i = 102
  · subst h; rw [if_pos (by decide), if_pos rfl]
  · rw [if_neg (fun e => h (by have := (ofNat_eq h1 102).1 e; rw [← this]; rfl)), if_neg (Ne.symm h)]
    by_cases h' : i = 110
    · subst h'; rw [if_pos (by decide), if_pos rfl]
    · rw [if_neg (fun e => h' (by have := (ofNat_eq h1 110).1 e; rw [← this]; rfl)), if_neg (Ne.symm h'), marks_at]
theorem marks_n {k : Int} (hk : 4 ≤ k) (s : List UInt8) : marks k (s ++ [110]) = ((marks k s).set 102 false).set 110 true := by
  refine List.ext_getElem (by simp [marks]) fun i h1 h2 => ?_
  rw [marks_len] at h1
  rw [marks_at, isO_snoc, if_neg (by decide), if_neg (fun h => absurd h.2 (by decide)), if_pos ⟨hk, rfl⟩, List.getElem_set, List.getElem_set]
  by_cases h : i = 110
  · subst h; rw [if_pos (by decide), if_pos rfl]
  · rw [if_neg (fun e => h (by have := (ofNat_eq h1 110).1 e; rw [← this]; rfl)), if_neg (Ne.symm h)]
    by_cases h' : i = 102
    · subst h'; rw [if_pos (by decide), if_pos rfl]
    · rw [if_neg (fun e => h' (by have := (ofNat_eq h1 102).1 e; rw [← this]; rfl)), if_neg (Ne.symm h'), marks_at]
theorem marks_c {k : Int} (s : List UInt8) (c : UInt8) (h82 : c ≠ 82) (h102 : ¬ (4 ≤ k ∧ c = 102)) (h110 : ¬ (4 ≤ k ∧ c = 110)) : marks k (s ++ [c]) = (marks k s).set c.toNat true := by
  refine List.ext_getElem (by simp [marks]) fun i h1 h2 => ?_
  rw [marks_len] at h1
  rw [marks_at, isO_snoc, if_neg h82, if_neg h102, if_neg h110, List.getElem_set]
  by_cases h : c.toNat = i
  · rw [if_pos ((ofNat_eq h1 c).2 h), if_pos h]
  · rw [if_neg (fun e => h ((ofNat_eq h1 c).1 e)), if_neg h, marks_at]

/-- The letters below n that are given. -/
def riseG (g : List Bool) (n : Nat) : List UInt8 := ((List.range n).filter fun i => g.getD i false).map UInt8.ofNat
theorem riseG_succ (g : List Bool) (n : Nat) : riseG g (n + 1) = riseG g n ++ if g.getD n false = true then [UInt8.ofNat n] else [] := by
  unfold riseG
  rw [List.range_succ, List.filter_append, List.map_append]
  congr 1
  rw [List.filter_cons]
  split <;> rfl
theorem riseG_len (g : List Bool) (n : Nat) : (riseG g n).length ≤ n := by
  unfold riseG
  rw [List.length_map]
  refine Nat.le_trans (List.length_filter_le _ _) ?_
  simp
theorem allK_range {k : Int} (h1 : 1 ≤ k) (h2 : k ≤ 5) : ∀ c ∈ allK k, 65 ≤ c.toNat ∧ c.toNat < 123 := by
  obtain rfl | rfl | rfl | rfl | rfl : k = 1 ∨ k = 2 ∨ k = 3 ∨ k = 4 ∨ k = 5 := by omega
  all_goals decide
theorem isO_out {k : Int} {s : List UInt8} (h1 : 1 ≤ k) (h2 : k ≤ 5) (hs : ∀ c ∈ s, (allK k).contains c = true) {x : UInt8} (hx : x.toNat < 65 ∨ 123 ≤ x.toNat) : isO k s x = false := by
  have hn : ∀ c : UInt8, 65 ≤ c.toNat → c.toNat < 123 → x ≠ c := by rintro c a b rfl; omega
  unfold isO
  rw [if_neg (fun c => by rcases c.2 with e | e; exact hn 102 (by decide) (by decide) e; exact hn 110 (by decide) (by decide) e), if_neg (hn 114 (by decide) (by decide)), if_neg (hn 82 (by decide) (by decide))]
  rw [Bool.eq_false_iff]
  intro c
  have hm := hs x (List.contains_iff_mem.1 c)
  have := allK_range h1 h2 x (List.contains_iff_mem.1 hm)
  omega
theorem riseG_is {k : Int} {s : List UInt8} (h1 : 1 ≤ k) (h2 : k ≤ 5) (hs : ∀ c ∈ s, (allK k).contains c = true) : riseG (marks k s) 256 = optionsF k s := by
  have key : ∀ i, i < 256 → (marks k s).getD i false = isO k s (UInt8.ofNat i) := by
    intro i hi
    rw [List.getD_eq_getElem?_getD, List.getElem?_eq_getElem (by rw [marks_len]; exact hi), Option.getD_some, marks_at]
  have low : ∀ n, n ≤ 65 → riseG (marks k s) n = [] := by
    intro n
    induction n with
    | zero => intro _; rfl
    | succ n ih =>
      intro hn
      rw [riseG_succ, ih (by omega), key n (by omega), isO_out h1 h2 hs (.inl (by simp; omega))]
      rfl
  have mid : ∀ n, n ≤ 58 → riseG (marks k s) (65 + n) = optionsK k s n := by
    intro n
    induction n with
    | zero => intro _; exact low 65 (by omega)
    | succ n ih =>
      intro hn
      rw [show 65 + (n + 1) = 65 + n + 1 by omega, riseG_succ, ih (by omega), key (65 + n) (by omega), options_succ]
  have high : ∀ n, n ≤ 133 → riseG (marks k s) (123 + n) = optionsF k s := by
    intro n
    induction n with
    | zero => intro _; exact mid 58 (by omega)
    | succ n ih =>
      intro hn
      rw [show 123 + (n + 1) = 123 + n + 1 by omega, riseG_succ, ih (by omega), key (123 + n) (by omega), isO_out h1 h2 hs (.inr (by simp; omega))]
      simp
  exact high 133 (by omega)
theorem letters_in (all : List UInt8) : ∀ l : List (List UInt8), ∀ c ∈ (lettersN all l).1, all.contains c = true
  | [], c, h => by cases h
  | w :: t, c, h => by
    rw [lettersN] at h
    split at h
    · cases h
    split at h
    · cases h
    split at h
    · exact scan_mem h
    · rcases List.mem_append.1 h with h | h
      · exact scan_mem h
      · exact letters_in all t c h
end Go.Proofs.YtboceckeebhfoaaDoor

/- Small laws used by all walks of this seat: endings, bytes in rows of the call's own, texts made of them. -/
set_option linter.unusedVariables false
set_option linter.unusedSimpArgs false
namespace Go.Proofs.YtboceckeebhfoaaDoor
open Go.RowKit

theorem ret_bool {a b : Bool} (h : a = b) : Ending.returned (.bool a) = .returned (.bool b) := by rw [h]
theorem ret_str {a b : List UInt8} (h : a = b) : Ending.returned (.string ⟨a.toArray⟩) = .returned (.string ⟨b.toArray⟩) := by rw [h]
theorem str_len {s : ByteArray} {n : Nat} (h : s.size ≤ n) : s.data.toList.length ≤ n := by rw [Array.length_toList]; exact h
theorem str_eta (s : ByteArray) : s = ⟨s.data.toList.toArray⟩ := by simp

@[go_sem] theorem str_at (l : List UInt8) (k : Nat) (h : k < (ByteArray.mk l.toArray).size) : (ByteArray.mk l.toArray)[k] = l[k]'(by have h' := h; simp [ByteArray.size] at h'; exact h') := rfl

theorem bits_and15_all : ∀ n : Fin 256, bits BinOp.and IntKind.u8 ((n.val : Nat) : Int) 15 = ((n.val : Nat) : Int) % 16 := by decide +kernel
theorem bits_and15 (n : Nat) (h : n < 256) : bits BinOp.and IntKind.u8 (n : Int) 15 = (n : Int) % 16 := bits_and15_all ⟨n, h⟩

@[go_sem] theorem take_drop_all {α : Type} (l : List α) (k : Nat) : (l.drop k).take (l.length - k) = l.drop k := List.take_of_length_le (by simp)

/-- Bytes as cells. -/
def bytesV (l : List UInt8) : List Value := l.map fun c => .int .u8 (c.toNat : Int)
theorem bytesV_append (a b : List UInt8) : bytesV (a ++ b) = bytesV a ++ bytesV b := by simp [bytesV]
theorem bytesV_one (l : List UInt8) : ∀ u ∈ bytesV l, u.oneCell' = true := by
  intro u hu; obtain ⟨_, _, rfl⟩ := List.mem_map.1 hu; rfl
theorem bytesV_len (l : List UInt8) : (bytesV l).length = l.length := by simp [bytesV]

/-- The cells of a new block of bytes. -/
theorem cells_block (w : World) (C : Array Value) (t : TypeId) : ∀ (j : Nat) (u : Value), C.toList[j]? = some u → (w.alloc (.cells C t)).cell? ((⟨w.heap.size, 0, none⟩ : Addr).add j) = some u := by
  intro j u h
  have := World.cell?_alloc_mark w C t (0, 0) j
  rw [Addr.add_lit, Nat.zero_add, this]; simpa using h

/-- A text made of an owned row of bytes. -/
theorem run_own_string {P : Program} {w : World} {base : Nat} {e : TypeId} {v : Value} {n : Nat} {l : List UInt8} (src dst : TypeId) (hs : P.underlying src = some (.slice e)) (he : P.underlying e = some (.int .u8)) (hd : P.underlying dst = some .string)
    (h : w.ownsRow base e 1 v n (bytesV l)) : (convert src dst v).run P w = .ok (.string ⟨l.toArray⟩) w := by
  have hlen := h.1
  rw [bytesV_len] at hlen
  rcases h.2 with ⟨rfl, rfl⟩ | ⟨g, cap, cur, rfl, hg, hh, hnc, hcm, hsz, htk⟩
  · have : l = [] := List.eq_nil_of_length_eq_zero (by simpa using hlen)
    subst this
    rw [run_convert_bytes_string w src dst e none 0 0 hs he hd]
    rfl
  · have hn : n = l.length := by omega
    subst hn
    refine run_convert_bytes_back w src dst e ⟨g, 0, none⟩ cap l hs he hd ?_
    intro j hj
    have hc := World.ownsRow.cells h (g := g) rfl j (.int .u8 (l[j].toNat : Int)) (by simp [bytesV, List.getElem?_eq_getElem hj])
    exact hc

theorem wpList_own_string {P : Program} {w : World} {ops : Array Oper} {rest : List Oper} {o : Oper} {a : Act} {Q : Exit → Act → World → Prop} (hgd : o.guard = none) (x : Operand) (src dst : TypeId)
    (ho : o.op = .convert src dst x) {base : Nat} {e : TypeId} {v : Value} {n : Nat} {l : List UInt8} (hs : P.underlying src = some (.slice e)) (he : P.underlying e = some (.int .u8)) (hd : P.underlying dst = some .string)
    (hx : a.eval x = v) (h : w.ownsRow base e 1 v n (bytesV l)) (hK : wpList P ops Q rest (a.put o.dst (.string ⟨l.toArray⟩)) w) : wpList P ops Q (o :: rest) a w := by
  refine wpList_plain hgd fun K hK' => ?_
  have hrun := run_own_string (P := P) src dst hs he hd h
  unfold Oper.wp
  simp [execOp, ho, hx, hrun, Result.andThen]
  exact hK' _ _ hK

theorem own_below {w w' : World} {base : Nat} {e : TypeId} {size : Nat} {v : Value} {n : Nat} {xs : List Value} (h : w.ownsRow base e size v n xs) (hg : w.grownBy w' v.ownBlock) (hb : base ≤ w.heap.size) : Below base w w' :=
  (Below.refl base w).grown hg hb fun k hk => (h.lt k hk).1

/-- What is owned stays owned behind whatever turns nothing that was there. -/
theorem own_keep {w w' : World} {base : Nat} {e : TypeId} {size : Nat} {v : Value} {n : Nat} {xs : List Value} (h : w.ownsRow base e size v n xs) (hb : Below w.heap.size w w') : w'.ownsRow base e size v n xs := by
  obtain ⟨h1, h2⟩ := h
  refine ⟨h1, ?_⟩
  rcases h2 with h2 | ⟨g, cap, cur, hv, hg, hh, r⟩
  · exact Or.inl h2
  · have hlt : g < w.heap.size := by
      rcases Nat.lt_or_ge g w.heap.size with h | h
      · exact h
      · simp [Array.getElem?_eq_none h] at hh
    exact Or.inr ⟨g, cap, cur, hv, hg, by rw [hb.block g hlt]; exact hh, r⟩

/-- 'append(s, a, b, ..)': what is appended lies in a block that was just made for it. -/
theorem wpList_append_new {P : Program} {w : World} {ops : Array Oper} {rest : List Oper} {o : Oper} {a : Act} {Q : Exit → Act → World → Prop} (hgd : o.guard = none) (s x : Operand) (t e : TypeId)
    (ho : o.op = .call { callee := .builtin .append, args := #[s, x], argTypes := #[t, t] })
    {i : TypeInfo} {z : Value} {size bytes : Nat} (ht : P.underlying t = some (.slice e)) (hi : P.info? e = some i) (hz : i.zero = some z)
    (hsize : i.size = size) (hby : i.bytes = bytes) (hzs : z.cells.size = size) (hsz : 0 < size) (hbs : bytes ≤ 128)
    (base : Nat) {v : Value} {n : Nat} {xs : List Value} (C : Array Value) (m : Nat) (hs : a.eval s = v) (hx : a.eval x = .slice (some ⟨w.heap.size, 0, none⟩) m m) (hown : w.ownsRow base e size v n xs)
    (hm : C.size = m * size) (h1 : ∀ u ∈ C.toList, u.oneCell' = true) (hb : n + m ≤ 1099511627776) (hbase : base ≤ w.heap.size)
    (hK : ∀ v' w', w'.ownsRow base e size v' (n + m) (xs ++ C.toList) → Below base w w' → wpList P ops Q rest (a.put o.dst v') w') :
    wpList P ops Q (o :: rest) a (w.alloc (.cells C e)) := by
  refine wpList_append_own _ hgd s x t ho base e i z size bytes ht hi hz hsize hby hzs hsz v n xs hs (hown.alloc _) ⟨w.heap.size, 0, none⟩ m m C.toList hx (by simpa using hm) (cells_block w C e) h1 (by unfold maxLen; omega) ?_ (by simp; omega) ?_
  · calc (n + m) * bytes ≤ 1099511627776 * 128 := Nat.mul_le_mul hb hbs
      _ ≤ 140737488355328 := by decide
  · intro v' w' h2 h3 _
    exact hK v' w' h2 (((Below.refl base w).alloc hbase _).trans (own_below (hown.alloc _) h3 (by simp; omega)))

/-- The same, and every block but the row's own stays. -/
theorem wpList_append_near {P : Program} {w : World} {ops : Array Oper} {rest : List Oper} {o : Oper} {a : Act} {Q : Exit → Act → World → Prop} (hgd : o.guard = none) (s x : Operand) (t e : TypeId)
    (ho : o.op = .call { callee := .builtin .append, args := #[s, x], argTypes := #[t, t] })
    {i : TypeInfo} {z : Value} {size bytes : Nat} (ht : P.underlying t = some (.slice e)) (hi : P.info? e = some i) (hz : i.zero = some z)
    (hsize : i.size = size) (hby : i.bytes = bytes) (hzs : z.cells.size = size) (hsz : 0 < size) (hbs : bytes ≤ 128)
    (base : Nat) {v : Value} {n : Nat} {xs : List Value} (C : Array Value) (m : Nat) (hs : a.eval s = v) (hx : a.eval x = .slice (some ⟨w.heap.size, 0, none⟩) m m) (hown : w.ownsRow base e size v n xs)
    (hm : C.size = m * size) (h1 : ∀ u ∈ C.toList, u.oneCell' = true) (hb : n + m ≤ 1099511627776) (hbase : base ≤ w.heap.size)
    (hK : ∀ v' w', w'.ownsRow base e size v' (n + m) (xs ++ C.toList) → (w.alloc (.cells C e)).grownBy w' v.ownBlock → wpList P ops Q rest (a.put o.dst v') w') :
    wpList P ops Q (o :: rest) a (w.alloc (.cells C e)) := by
  refine wpList_append_own _ hgd s x t ho base e i z size bytes ht hi hz hsize hby hzs hsz v n xs hs (hown.alloc _) ⟨w.heap.size, 0, none⟩ m m C.toList hx (by simpa using hm) (cells_block w C e) h1 (by unfold maxLen; omega) ?_ (by simp; omega) ?_
  · calc (n + m) * bytes ≤ 1099511627776 * 128 := Nat.mul_le_mul hb hbs
      _ ≤ 140737488355328 := by decide
  · intro v' w' h2 h3 _
    exact hK v' w' h2 h3

/-- The same as one step of a region that draws its order. -/
theorem step_append_own {P : Program} {ops : Array Oper} {o : Oper} {a : Act} {w : World} {K : Act → World → Prop} {Q : Exit → Act → World → Prop} {E : Prop} (hgd : o.guard = none) (s x : Operand) (t e : TypeId)
    (ho : o.op = .call { callee := .builtin .append, args := #[s, x], argTypes := #[t, t] })
    {i : TypeInfo} {z : Value} {size bytes : Nat} (ht : P.underlying t = some (.slice e)) (hi : P.info? e = some i) (hz : i.zero = some z)
    (hsize : i.size = size) (hby : i.bytes = bytes) (hzs : z.cells.size = size) (hsz : 0 < size) (hbs : bytes ≤ 128)
    (base : Nat) {v : Value} {n : Nat} {xs : List Value} (ad : Addr) (m : Nat) (news : List Value) (hs : a.eval s = v) (hx : a.eval x = .slice (some ad) m m) (hown : w.ownsRow base e size v n xs)
    (hm : news.length = m * size) (hnews : ∀ j u, news[j]? = some u → w.cell? (ad.add j) = some u) (h1 : ∀ u ∈ news, u.oneCell' = true) (hb : n + m ≤ 1099511627776) (hbase : base ≤ w.heap.size)
    (hK : ∀ v' w', w'.ownsRow base e size v' (n + m) (xs ++ news) → Below base w w' → K (a.put o.dst v') w') :
    if Region.wanted o (yielded ops a.tmps) = true then Oper.wp P o a w K Q else E := by
  rw [if_pos (by simp [Region.wanted, hgd])]
  refine wp_append_own w s x t ho base e i z size bytes ht hi hz hsize hby hzs hsz v n xs hs hown ad m m news hx hm hnews h1 (by unfold maxLen; omega) ?_ hbase ?_
  · calc (n + m) * bytes ≤ 1099511627776 * 128 := Nat.mul_le_mul hb hbs
      _ ≤ 140737488355328 := by decide
  · intro v' w' h2 h3 _
    exact hK v' w' h2 (own_below hown h3 hbase)

/-- A text made of bytes that lie in a block just made for them. -/
theorem run_new_string {P : Program} (w : World) (src dst : TypeId) {e : TypeId} (hs : P.underlying src = some (.slice e)) (he : P.underlying e = some (.int .u8)) (hd : P.underlying dst = some .string)
    (l : List UInt8) (C : Array Value) (hC : C = (bytesV l).toArray) (n : Nat) (hn : n = l.length) :
    (convert src dst (.slice (some ⟨w.heap.size, 0, none⟩) n n)).run P (w.alloc (.cells C e)) = .ok (.string ⟨l.toArray⟩) (w.alloc (.cells C e)) := by
  subst hC hn
  exact run_convert_bytes_back (P := P) (w.alloc (.cells (bytesV l).toArray e)) src dst e ⟨w.heap.size, 0, none⟩ l.length l hs he hd (by
    intro j hj
    exact cells_block w (bytesV l).toArray e j _ (by simp [bytesV, List.getElem?_eq_getElem hj]))
end Go.Proofs.YtboceckeebhfoaaDoor

/- Walks: the document's In, Name, last. -/
set_option linter.unusedVariables false
set_option linter.unusedSimpArgs false
namespace Go.Proofs.YtboceckeebhfoaaDoor
open Go.RowKit

/-- Is a byte among others? -/
def inB (s : List UInt8) (c : UInt8) : Bool := s.contains c
theorem below_new (w : World) (o : Obj) : Below w.heap.size w (w.alloc o) := (Below.refl _ w).alloc (Nat.le_refl _) _
theorem contains_yes {s : List UInt8} {c : UInt8} {k : Nat} (h : k < s.length) (e : s[k] = c) : inB s c = true := by
  unfold inB
  rw [List.contains_iff_mem, ← e]; exact List.getElem_mem h
theorem contains_no {s : List UInt8} {c : UInt8} (h : ∀ j (hj : j < s.length), j < s.length → s[j] ≠ c) : inB s c = false := by
  unfold inB
  rw [Bool.eq_false_iff]
  intro hc
  obtain ⟨j, hj, e⟩ := List.getElem_of_mem (List.contains_iff_mem.1 hc)
  exact h j hj hj e

theorem refIn_any (s : List UInt8) (c : UInt8) (w : World) (hl : s.length ≤ 1000000) :
    Calls Tryd.prog 16 #[.string ⟨s.toArray⟩, .int .u8 (c.toNat : Int)] w fun e w' => e = .returned (.bool (inB s c)) ∧ w = w' := by
  go_enter Tryd.func16, Tryd.ntmps16
  go_wp2
  go_loop [5] (fun i => ∃ k : Nat, k ≤ s.length ∧ i = .int .i64 k ∧ Aside (∀ j (hj : j < s.length), j < k → s[j] ≠ c)) (fun i => s.length - (intOf i).toNat)
  case atStart => exact ⟨0, Nat.zero_le _, rfl, fun j _ h2 => absurd h2 (by omega)⟩
  case round =>
    obtain ⟨k, hk, rfl, HT⟩ := hrel
    by_cases hlt : k < s.length
    · by_cases he : s[k] = c
      · have hb : ((s[k].toNat : Int) == (c.toNat : Int)) = true := by rw [he]; simp
        have HN := Lib.hid (contains_yes hlt he)
        clear he
        go_wp2
        go_ret
        exact ⟨by rw [HN.out]; rfl, rfl⟩
      · have hb : ((s[k].toNat : Int) == (c.toNat : Int)) = false := by
          rw [beq_eq_false_iff_ne]
          intro e
          exact he (UInt8.toNat_inj.1 (by omega))
        have HT2 : Hid (∀ j (hj : j < s.length), j < k + 1 → s[j] ≠ c) := fun j hj h => by
          rcases Nat.lt_or_ge j k with h' | h'
          · exact HT.out j hj h'
          · obtain rfl : j = k := by omega
            exact he
        clear he
        go_wp2
        go_round
        case rel => exact ⟨k + 1, by omega, by go_num, HT2.out⟩
        case measure => simp [intOf]; omega
    · obtain rfl : k = s.length := by omega
      have HN := Lib.hid (contains_no HT.out)
      clear HT
      go_wp2
      go_ret
      exact ⟨by rw [HN.out]; rfl, rfl⟩

theorem refName_no (k : Int) (w : World) (h : ¬ (1 ≤ k ∧ k ≤ 5)) :
    Calls Tryd.prog 14 #[.int .i64 k] w fun e w' => e = .returned (.string ⟨#[]⟩) ∧ Below w.heap.size w w' := by
  by_cases h1 : k < 1
  · go_enter Tryd.func14, Tryd.ntmps14
    go_wp2
    go_ret
    exact ⟨rfl, Below.refl _ _⟩
  · have h2 : 5 < k := by omega
    go_enter Tryd.func14, Tryd.ntmps14
    go_wp2
    go_ret
    exact ⟨rfl, Below.refl _ _⟩
theorem refName_any (k : Int) (w : World) :
    Calls Tryd.prog 14 #[.int .i64 k] w fun e w' => e = .returned (.string ⟨(nameK k).toArray⟩) ∧ Below w.heap.size w w' := by
  by_cases h : 1 ≤ k ∧ k ≤ 5
  · obtain rfl | rfl | rfl | rfl | rfl : k = 1 ∨ k = 2 ∨ k = 3 ∨ k = 4 ∨ k = 5 := by omega
    all_goals clear h
    all_goals go_enter Tryd.func14, Tryd.ntmps14
    all_goals go_wp2
    all_goals go_ret
    all_goals exact ⟨rfl, below_new _ _⟩
  · have := refName_no k w h
    have e : nameK k = [] := by
      unfold nameK
      rw [if_neg (by omega), if_neg (by omega), if_neg (by omega), if_neg (by omega), if_neg (by omega)]
    rw [e]
    exact this

theorem lastF_len (pair : List UInt8) (s : List UInt8) (k : Nat) (h : k < s.length) : lastF pair (s.take (k + 1)) = if inB pair s[k] = true then s[k] else lastF pair (s.take k) := by
  rw [List.take_succ_eq_append_getElem h, last_snoc]; rfl
theorem reflast_any (s pair : List UInt8) (w : World) (hl : s.length ≤ 1000000) (hp : pair.length ≤ 1000000) :
    Calls Tryd.prog 33 #[.string ⟨s.toArray⟩, .string ⟨pair.toArray⟩] w fun e w' => e = .returned (.int .u8 ((lastF pair s).toNat : Int)) ∧ w = w' := by
  go_enter Tryd.func33, Tryd.ntmps33
  go_wp2
  go_loop [5, 6] (fun c i => ∃ k : Nat, k ≤ s.length ∧ i = .int .i64 k ∧ c = .int .u8 ((lastF pair (s.take k)).toNat : Int)) (fun _ i => s.length - (intOf i).toNat)
  case atStart => exact ⟨0, Nat.zero_le _, rfl, rfl⟩
  case round =>
    obtain ⟨k, hk, rfl, rfl⟩ := hrel
    by_cases hlt : k < s.length
    · have hs := lastF_len pair s k hlt
      cases hc : inB pair s[k]
      · rw [hc, if_neg (by simp)] at hs
        have HS := Lib.hid hs
        clear hs
        go_wp2_with fail
        refine (refIn_any pair s[k] _ hp).mono ?_
        rintro e w2 ⟨rfl, rfl⟩
        rw [hc]
        go_wp2
        go_round
        case rel => exact ⟨k + 1, by omega, by go_num, by rw [HS.out]⟩
        case measure => simp [intOf]; omega
      · rw [hc, if_pos rfl] at hs
        have HS := Lib.hid hs
        clear hs
        go_wp2_with fail
        refine (refIn_any pair s[k] _ hp).mono ?_
        rintro e w2 ⟨rfl, rfl⟩
        rw [hc]
        go_wp2
        go_round
        case rel => exact ⟨k + 1, by omega, by go_num, by rw [HS.out]⟩
        case measure => simp [intOf]; omega
    · obtain rfl : k = s.length := by omega
      go_wp2
      go_ret
      exact ⟨by first | rfl | (rw [List.take_length]; rfl), rfl⟩
end Go.Proofs.YtboceckeebhfoaaDoor

/- Walks: the document's forms, and plain words. -/
set_option linter.unusedVariables false
set_option linter.unusedSimpArgs false
namespace Go.Proofs.YtboceckeebhfoaaDoor
open Go.RowKit

set_option maxHeartbeats 800000 in
theorem Byte_any (c : UInt8) (w : World) :
    Calls Tryd.prog 32 #[.int .u8 (c.toNat : Int)] w fun e w' => e = .returned (.string ⟨(formB c).toArray⟩) ∧ Below w.heap.size w w' := by
  have h0 : (0 : Int) ≤ c.toNat := by omega
  have hc := c.toNat_lt
  have q0 : (0 : Int) ≤ (c.toNat : Int) / 16 := by omega
  have q1 : (c.toNat : Int) / 16 < 16 := by omega
  have r0 : (0 : Int) ≤ (c.toNat : Int) % 16 := by omega
  have r1 : (c.toNat : Int) % 16 < 16 := by omega
  have e1 : IntKind.u8.wrap ((c.toNat : Int) / 16) = (c.toNat : Int) / 16 := IntWalk.u8_in _ (by omega)
  have e2 : ((c.toNat : Int).tmod 16) = (c.toNat : Int) % 16 := IntWalk.rem_in _ _ h0
  by_cases b1 : (32 : Int) ≤ c.toNat
  · by_cases b2 : (c.toNat : Int) ≤ 126
    · cases b3 : ((c.toNat : Int) != 34)
      · (have hb : bareB c = false := by (rw [Bool.eq_false_iff]; simp [bareB]; simp at b3; omega)); have hf := Lib.hid (formB_hex hb); have g1 := Lib.hid (hex_atN (c.toNat / 16) (by simp [hexDigits]; omega)); have g2 := Lib.hid (hex_atN (c.toNat % 16) (by simp [hexDigits]; omega)); go_enter Tryd.func32, Tryd.ntmps32; go_wp2; go_still_tail 6, (by kernel_rfl); change wpList _ _ _ _ _ w.drew; generalize hwd : w.drew = w2; have hB : Below w.heap.size w w2 := (by rw [← hwd]; exact (Below.refl _ _).drew); clear hwd; have hcv := run_new_string (P := Tryd.prog) w2 34 9 Tryd.underlying34 Tryd.underlying5 Tryd.underlying9 [92, 120, hexDigits[c.toNat / 16]'(by simp [hexDigits]; omega), hexDigits[c.toNat % 16]'(by simp [hexDigits]; omega)] #[.int .u8 92, .int .u8 120, .int .u8 ((hexDigits[c.toNat / 16]'(by simp [hexDigits]; omega)).toNat : Int), .int .u8 ((hexDigits[c.toNat % 16]'(by simp [hexDigits]; omega)).toNat : Int)] rfl 4 rfl; unfold hexDigits at hcv; go_wp2; clear hcv; go_ret; exact ⟨by (rw [hf.out, ← g1.out, ← g2.out]; rfl), hB.alloc hB.size _⟩
      · cases b4 : ((c.toNat : Int) != 92)
        · (have hb : bareB c = false := by (rw [Bool.eq_false_iff]; simp [bareB]; simp at b4; omega)); have hf := Lib.hid (formB_hex hb); have g1 := Lib.hid (hex_atN (c.toNat / 16) (by simp [hexDigits]; omega)); have g2 := Lib.hid (hex_atN (c.toNat % 16) (by simp [hexDigits]; omega)); go_enter Tryd.func32, Tryd.ntmps32; go_wp2; go_still_tail 6, (by kernel_rfl); change wpList _ _ _ _ _ w.drew; generalize hwd : w.drew = w2; have hB : Below w.heap.size w w2 := (by rw [← hwd]; exact (Below.refl _ _).drew); clear hwd; have hcv := run_new_string (P := Tryd.prog) w2 34 9 Tryd.underlying34 Tryd.underlying5 Tryd.underlying9 [92, 120, hexDigits[c.toNat / 16]'(by simp [hexDigits]; omega), hexDigits[c.toNat % 16]'(by simp [hexDigits]; omega)] #[.int .u8 92, .int .u8 120, .int .u8 ((hexDigits[c.toNat / 16]'(by simp [hexDigits]; omega)).toNat : Int), .int .u8 ((hexDigits[c.toNat % 16]'(by simp [hexDigits]; omega)).toNat : Int)] rfl 4 rfl; unfold hexDigits at hcv; go_wp2; clear hcv; go_ret; exact ⟨by (rw [hf.out, ← g1.out, ← g2.out]; rfl), hB.alloc hB.size _⟩
        · have hb : bareB c = true := by simp [bareB]; simp at b3 b4; omega
          have hf := Lib.hid (formB_bare hb)
          go_enter Tryd.func32, Tryd.ntmps32
          have hcv := run_new_string (P := Tryd.prog) w 34 9 Tryd.underlying34 Tryd.underlying5 Tryd.underlying9 [c] #[.int .u8 (c.toNat : Int)] rfl 1 rfl
          go_wp2
          go_ret
          exact ⟨by (rw [hf.out]; rfl), (Below.refl _ _).alloc (Nat.le_refl _) _⟩
    · (have hb : bareB c = false := by (rw [Bool.eq_false_iff]; simp [bareB]; simp at b2; omega)); have hf := Lib.hid (formB_hex hb); have g1 := Lib.hid (hex_atN (c.toNat / 16) (by simp [hexDigits]; omega)); have g2 := Lib.hid (hex_atN (c.toNat % 16) (by simp [hexDigits]; omega)); go_enter Tryd.func32, Tryd.ntmps32; go_wp2; go_still_tail 6, (by kernel_rfl); change wpList _ _ _ _ _ w.drew; generalize hwd : w.drew = w2; have hB : Below w.heap.size w w2 := (by rw [← hwd]; exact (Below.refl _ _).drew); clear hwd; have hcv := run_new_string (P := Tryd.prog) w2 34 9 Tryd.underlying34 Tryd.underlying5 Tryd.underlying9 [92, 120, hexDigits[c.toNat / 16]'(by simp [hexDigits]; omega), hexDigits[c.toNat % 16]'(by simp [hexDigits]; omega)] #[.int .u8 92, .int .u8 120, .int .u8 ((hexDigits[c.toNat / 16]'(by simp [hexDigits]; omega)).toNat : Int), .int .u8 ((hexDigits[c.toNat % 16]'(by simp [hexDigits]; omega)).toNat : Int)] rfl 4 rfl; unfold hexDigits at hcv; go_wp2; clear hcv; go_ret; exact ⟨by (rw [hf.out, ← g1.out, ← g2.out]; rfl), hB.alloc hB.size _⟩
  · (have hb : bareB c = false := by (rw [Bool.eq_false_iff]; simp [bareB]; simp at b1; omega)); have hf := Lib.hid (formB_hex hb); have g1 := Lib.hid (hex_atN (c.toNat / 16) (by simp [hexDigits]; omega)); have g2 := Lib.hid (hex_atN (c.toNat % 16) (by simp [hexDigits]; omega)); go_enter Tryd.func32, Tryd.ntmps32; go_wp2; go_still_tail 6, (by kernel_rfl); change wpList _ _ _ _ _ w.drew; generalize hwd : w.drew = w2; have hB : Below w.heap.size w w2 := (by rw [← hwd]; exact (Below.refl _ _).drew); clear hwd; have hcv := run_new_string (P := Tryd.prog) w2 34 9 Tryd.underlying34 Tryd.underlying5 Tryd.underlying9 [92, 120, hexDigits[c.toNat / 16]'(by simp [hexDigits]; omega), hexDigits[c.toNat % 16]'(by simp [hexDigits]; omega)] #[.int .u8 92, .int .u8 120, .int .u8 ((hexDigits[c.toNat / 16]'(by simp [hexDigits]; omega)).toNat : Int), .int .u8 ((hexDigits[c.toNat % 16]'(by simp [hexDigits]; omega)).toNat : Int)] rfl 4 rfl; unfold hexDigits at hcv; go_wp2; clear hcv; go_ret; exact ⟨by (rw [hf.out, ← g1.out, ← g2.out]; rfl), hB.alloc hB.size _⟩

end Go.Proofs.YtboceckeebhfoaaDoor

/- The document's Quote, alone (WalkF01 asks for Unquote's walks). -/
set_option linter.unusedVariables false
set_option linter.unusedSimpArgs false
namespace Go.Proofs.YtboceckeebhfoaaDoor
open Go.RowKit

attribute [go_sem] ByteArray.mk_append_mk

theorem refQuoteK_any (l : List UInt8) (w : World) (hl : l.length ≤ 1000000) :
    Calls Tryd.prog 24 #[.string ⟨l.toArray⟩] w fun e w' => e = .returned (.string ⟨(quoteB l).toArray⟩) ∧ Below w.heap.size w w' := by
  go_enter Tryd.func24, Tryd.ntmps24
  go_wp2
  go_loopw [3, 4] (fun s i wr => ∃ k : Nat, k ≤ l.length ∧ i = .int .i64 k ∧ s = .string ⟨(34 :: formsB (l.take k)).toArray⟩ ∧ Below w.heap.size w wr) (fun _ i _ => l.length - (intOf i).toNat)
  case atStart => exact ⟨0, Nat.zero_le _, rfl, rfl, Below.refl _ _⟩
  case round =>
    obtain ⟨k, hk, rfl, rfl, hb⟩ := hrel
    have hfl := formsB_take_len l k
    by_cases hlt : k < l.length
    · have hsn := Lib.hid (formsB_snoc l k hlt)
      have h4 := formB_len l[k]
      go_wp2_with fail
      refine (Byte_any _ _).mono ?_
      rintro e w2 ⟨rfl, hB⟩
      go_wp2
      go_roundw
      case rel => exact ⟨k + 1, by omega, by go_num, by rw [hsn.out], hb.trans (hB.mono hb.size)⟩
      case measure => simp [intOf]; omega
    · obtain rfl : k = l.length := by omega
      rw [List.take_length] at hfl ⊢
      go_wp2
      go_ret
      exact ⟨rfl, hb⟩
end Go.Proofs.YtboceckeebhfoaaDoor

/- Walks: the document's Options (printed by tools/opts17.py). -/
set_option linter.unusedVariables false
set_option linter.unusedSimpArgs false
namespace Go.Proofs.YtboceckeebhfoaaDoor
open Go.RowKit

theorem isO_in (k : Int) (s : List UInt8) (x : UInt8) : isO k s x = if 4 ≤ k ∧ (x = 102 ∨ x = 110) then lastF [102, 110] s == x else if x = 114 then inB s 114 || inB s 82 else if x = 82 then false else inB s x := rfl
theorem opt_byte {n : Nat} (h : n < 58) : ((UInt8.ofNat (65 + n)).toNat : Int) = (n : Int) + 65 := by simp; omega

set_option maxHeartbeats 8000000 in
set_option maxRecDepth 100000 in
theorem refOptions_any (k : Int) (s : List UInt8) (w : World) (hs : s.length ≤ 1000000) :
    Calls Tryd.prog 26 #[.int .i64 k, .string ⟨s.toArray⟩] w fun e w' => e = .returned (.string ⟨(optionsF k s).toArray⟩) ∧ Below w.heap.size w w' := by
  go_enter Tryd.func26, Tryd.ntmps26
  go_wp2
  go_loopw [5, 6] (fun s5 s6 wr => ∃ n : Nat, n ≤ 58 ∧ s6 = .int .i64 ((n : Int) + 65) ∧ s5 = .string ⟨(optionsK k s n).toArray⟩ ∧ Below w.heap.size w wr) (fun _ s6 _ => 123 - (intOf s6).toNat)
  case atStart => exact ⟨0, by omega, rfl, rfl, Below.refl _ _⟩
  case round =>
    obtain ⟨n, hn, rfl, rfl, hb⟩ := hrel
    have hol := options_len k s n
    by_cases hlt : n < 58
    · have hlt2 : (n : Int) + 65 < 123 := by omega
      have hsu := Lib.hid (options_succ k s n)
      obtain ⟨x, hx⟩ : ∃ x : UInt8, x = UInt8.ofNat (65 + n) := ⟨_, rfl⟩
      have hxn := opt_byte hlt
      rw [← hx] at hxn hsu
      have hcv : IntKind.u8.wrap ((n : Int) + 65) = (x.toNat : Int) := by rw [hxn]; exact IntWalk.u8_in _ (by omega)
      have HXN := Lib.hid hxn
      clear hx hxn
      by_cases h82 : x.toNat = 82
      · have x82 : x = 82 := UInt8.toNat_inj.1 (by rw [h82]; rfl)
        have hxn := HXN.out
        have b82 : ((x.toNat : Int) == 82) = true := by simp; omega
        have b114 : ((x.toNat : Int) == 114) = false := by simp; omega
        have b102 : ((x.toNat : Int) == 102) = false := by simp; omega
        have b110 : ((x.toNat : Int) == 110) = false := by simp; omega
        clear hxn
        have X82 := Lib.hid x82
        clear x82 h82
        by_cases hk4 : 4 ≤ k
        · cases hi : inB s x
          · have hiso : isO k s x = false := by rw [isO_in]; rw [if_neg (by rw [X82.out]; simp), if_neg (by rw [X82.out]; decide), if_pos X82.out]
            have HS : Hid (optionsK k s (n + 1) = optionsK k s n) := by show _ = _; rw [hsu.out, hiso]; simp
            clear hiso
            go_wp2_with fail
            refine (refIn_any s x _ hs).mono ?_
            rintro e v1w ⟨rfl, hwz⟩
            subst hwz
            rw [hi]
            go_wp2
            go_roundw
            case rel => exact ⟨n + 1, by omega, by go_num, by rw [HS.out], hb⟩
            case measure => simp [intOf]; omega
          · have hiso : isO k s x = false := by rw [isO_in]; rw [if_neg (by rw [X82.out]; simp), if_neg (by rw [X82.out]; decide), if_pos X82.out]
            have HS : Hid (optionsK k s (n + 1) = optionsK k s n) := by show _ = _; rw [hsu.out, hiso]; simp
            clear hiso
            go_wp2_with fail
            refine (refIn_any s x _ hs).mono ?_
            rintro e v2w ⟨rfl, hwz⟩
            subst hwz
            rw [hi]
            go_wp2
            go_roundw
            case rel => exact ⟨n + 1, by omega, by go_num, by rw [HS.out], hb⟩
            case measure => simp [intOf]; omega
        · cases hi : inB s x
          · have hiso : isO k s x = false := by rw [isO_in]; rw [if_neg (by rw [X82.out]; simp), if_neg (by rw [X82.out]; decide), if_pos X82.out]
            have HS : Hid (optionsK k s (n + 1) = optionsK k s n) := by show _ = _; rw [hsu.out, hiso]; simp
            clear hiso
            go_wp2_with fail
            refine (refIn_any s x _ hs).mono ?_
            rintro e v3w ⟨rfl, hwz⟩
            subst hwz
            rw [hi]
            go_wp2
            go_roundw
            case rel => exact ⟨n + 1, by omega, by go_num, by rw [HS.out], hb⟩
            case measure => simp [intOf]; omega
          · have hiso : isO k s x = false := by rw [isO_in]; rw [if_neg (by rw [X82.out]; simp), if_neg (by rw [X82.out]; decide), if_pos X82.out]
            have HS : Hid (optionsK k s (n + 1) = optionsK k s n) := by show _ = _; rw [hsu.out, hiso]; simp
            clear hiso
            go_wp2_with fail
            refine (refIn_any s x _ hs).mono ?_
            rintro e v4w ⟨rfl, hwz⟩
            subst hwz
            rw [hi]
            go_wp2
            go_roundw
            case rel => exact ⟨n + 1, by omega, by go_num, by rw [HS.out], hb⟩
            case measure => simp [intOf]; omega
      have x82 : ¬ x = 82 := fun e => h82 (by rw [e]; rfl)
      by_cases h114 : x.toNat = 114
      · have x114 : x = 114 := UInt8.toNat_inj.1 (by rw [h114]; rfl)
        have hxn := HXN.out
        have b82 : ((x.toNat : Int) == 82) = false := by simp; omega
        have b114 : ((x.toNat : Int) == 114) = true := by simp; omega
        have b102 : ((x.toNat : Int) == 102) = false := by simp; omega
        have b110 : ((x.toNat : Int) == 110) = false := by simp; omega
        clear hxn
        have X114 := Lib.hid x114
        clear x114 h114
        by_cases hk4 : 4 ≤ k
        · cases hi : inB s 114
          · have hix : inB s x = false := by rw [X114.out]; exact hi
            cases hj : inB s 82
            · have hiso : isO k s x = false := by rw [isO_in]; rw [if_neg (by rw [X114.out]; simp), if_pos X114.out, hi, hj]; rfl
              have HS : Hid (optionsK k s (n + 1) = optionsK k s n) := by show _ = _; rw [hsu.out, hiso]; simp
              clear hiso
              go_wp2_with fail
              refine (refIn_any s x _ hs).mono ?_
              rintro e v5w ⟨rfl, hwz⟩
              subst hwz
              rw [hix]
              go_wp2_with fail
              refine (refIn_any s 114 _ hs).mono ?_
              rintro e v6w ⟨rfl, hwz⟩
              subst hwz
              rw [hi]
              go_wp2_with fail
              refine (refIn_any s 82 _ hs).mono ?_
              rintro e v7w ⟨rfl, hwz⟩
              subst hwz
              rw [hj]
              go_wp2
              go_roundw
              case rel => exact ⟨n + 1, by omega, by go_num, by rw [HS.out], hb⟩
              case measure => simp [intOf]; omega
            · have hiso : isO k s x = true := by rw [isO_in]; rw [if_neg (by rw [X114.out]; simp), if_pos X114.out, hi, hj]; rfl
              have HS : Hid (optionsK k s (n + 1) = optionsK k s n ++ [x]) := by show _ = _; rw [hsu.out, hiso]; rfl
              clear hiso
              go_wp2_with fail
              refine (refIn_any s x _ hs).mono ?_
              rintro e v8w ⟨rfl, hwz⟩
              subst hwz
              rw [hix]
              go_wp2_with fail
              refine (refIn_any s 114 _ hs).mono ?_
              rintro e v9w ⟨rfl, hwz⟩
              subst hwz
              rw [hi]
              go_wp2_with fail
              refine (refIn_any s 82 _ hs).mono ?_
              rintro e v10w ⟨rfl, hwz⟩
              subst hwz
              rw [hj]
              have hcv := run_new_string (P := Tryd.prog) wr 34 9 Tryd.underlying34 Tryd.underlying5 Tryd.underlying9 [x] #[.int .u8 (x.toNat : Int)] rfl 1 rfl
              go_wp2
              go_roundw
              case rel => exact ⟨n + 1, by omega, by go_num, by rw [HS.out], hb.alloc hb.size _⟩
              case measure => simp [intOf]; omega
          · have hix : inB s x = true := by rw [X114.out]; exact hi
            have hiso : isO k s x = true := by rw [isO_in]; rw [if_neg (by rw [X114.out]; simp), if_pos X114.out, hi]; rfl
            have HS : Hid (optionsK k s (n + 1) = optionsK k s n ++ [x]) := by show _ = _; rw [hsu.out, hiso]; rfl
            clear hiso
            go_wp2_with fail
            refine (refIn_any s x _ hs).mono ?_
            rintro e v11w ⟨rfl, hwz⟩
            subst hwz
            rw [hix]
            go_wp2_with fail
            refine (refIn_any s 114 _ hs).mono ?_
            rintro e v12w ⟨rfl, hwz⟩
            subst hwz
            rw [hi]
            have hcv := run_new_string (P := Tryd.prog) wr 34 9 Tryd.underlying34 Tryd.underlying5 Tryd.underlying9 [x] #[.int .u8 (x.toNat : Int)] rfl 1 rfl
            go_wp2
            go_roundw
            case rel => exact ⟨n + 1, by omega, by go_num, by rw [HS.out], hb.alloc hb.size _⟩
            case measure => simp [intOf]; omega
        · cases hi : inB s 114
          · have hix : inB s x = false := by rw [X114.out]; exact hi
            cases hj : inB s 82
            · have hiso : isO k s x = false := by rw [isO_in]; rw [if_neg (by rw [X114.out]; simp), if_pos X114.out, hi, hj]; rfl
              have HS : Hid (optionsK k s (n + 1) = optionsK k s n) := by show _ = _; rw [hsu.out, hiso]; simp
              clear hiso
              go_wp2_with fail
              refine (refIn_any s x _ hs).mono ?_
              rintro e v13w ⟨rfl, hwz⟩
              subst hwz
              rw [hix]
              go_wp2_with fail
              refine (refIn_any s 114 _ hs).mono ?_
              rintro e v14w ⟨rfl, hwz⟩
              subst hwz
              rw [hi]
              go_wp2_with fail
              refine (refIn_any s 82 _ hs).mono ?_
              rintro e v15w ⟨rfl, hwz⟩
              subst hwz
              rw [hj]
              go_wp2
              go_roundw
              case rel => exact ⟨n + 1, by omega, by go_num, by rw [HS.out], hb⟩
              case measure => simp [intOf]; omega
            · have hiso : isO k s x = true := by rw [isO_in]; rw [if_neg (by rw [X114.out]; simp), if_pos X114.out, hi, hj]; rfl
              have HS : Hid (optionsK k s (n + 1) = optionsK k s n ++ [x]) := by show _ = _; rw [hsu.out, hiso]; rfl
              clear hiso
              go_wp2_with fail
              refine (refIn_any s x _ hs).mono ?_
              rintro e v16w ⟨rfl, hwz⟩
              subst hwz
              rw [hix]
              go_wp2_with fail
              refine (refIn_any s 114 _ hs).mono ?_
              rintro e v17w ⟨rfl, hwz⟩
              subst hwz
              rw [hi]
              go_wp2_with fail
              refine (refIn_any s 82 _ hs).mono ?_
              rintro e v18w ⟨rfl, hwz⟩
              subst hwz
              rw [hj]
              have hcv := run_new_string (P := Tryd.prog) wr 34 9 Tryd.underlying34 Tryd.underlying5 Tryd.underlying9 [x] #[.int .u8 (x.toNat : Int)] rfl 1 rfl
              go_wp2
              go_roundw
              case rel => exact ⟨n + 1, by omega, by go_num, by rw [HS.out], hb.alloc hb.size _⟩
              case measure => simp [intOf]; omega
          · have hix : inB s x = true := by rw [X114.out]; exact hi
            have hiso : isO k s x = true := by rw [isO_in]; rw [if_neg (by rw [X114.out]; simp), if_pos X114.out, hi]; rfl
            have HS : Hid (optionsK k s (n + 1) = optionsK k s n ++ [x]) := by show _ = _; rw [hsu.out, hiso]; rfl
            clear hiso
            go_wp2_with fail
            refine (refIn_any s x _ hs).mono ?_
            rintro e v19w ⟨rfl, hwz⟩
            subst hwz
            rw [hix]
            go_wp2_with fail
            refine (refIn_any s 114 _ hs).mono ?_
            rintro e v20w ⟨rfl, hwz⟩
            subst hwz
            rw [hi]
            have hcv := run_new_string (P := Tryd.prog) wr 34 9 Tryd.underlying34 Tryd.underlying5 Tryd.underlying9 [x] #[.int .u8 (x.toNat : Int)] rfl 1 rfl
            go_wp2
            go_roundw
            case rel => exact ⟨n + 1, by omega, by go_num, by rw [HS.out], hb.alloc hb.size _⟩
            case measure => simp [intOf]; omega
      have x114 : ¬ x = 114 := fun e => h114 (by rw [e]; rfl)
      by_cases h102 : x.toNat = 102 ∨ x.toNat = 110
      · rcases h102 with hc | hc
        · have xc : x = 102 ∨ x = 110 := .inl (UInt8.toNat_inj.1 (by rw [hc]; rfl))
          have hxn := HXN.out
          have b82 : ((x.toNat : Int) == 82) = false := by simp; omega
          have b114 : ((x.toNat : Int) == 114) = false := by simp; omega
          have b102 : ((x.toNat : Int) == 102) = true := by simp; omega
          have b110 : ((x.toNat : Int) == 110) = false := by simp; omega
          clear hxn
          have XC := Lib.hid xc
          clear hc xc
          by_cases hk4 : 4 ≤ k
          · cases hi : inB s x
            · cases hl : (lastF [102, 110] s == x)
              · have hiso : isO k s x = false := by rw [isO_in]; rw [if_pos ⟨hk4, XC.out⟩, hl]
                have HS : Hid (optionsK k s (n + 1) = optionsK k s n) := by show _ = _; rw [hsu.out, hiso]; simp
                clear hiso
                have hlb : (((lastF [102, 110] s).toNat : Int) == (x.toNat : Int)) = false := by simp at hl; rw [beq_eq_false_iff_ne]; intro e; exact hl (UInt8.toNat_inj.1 (by omega))
                clear hl
                go_wp2_with fail
                refine (refIn_any s x _ hs).mono ?_
                rintro e v21w ⟨rfl, hwz⟩
                subst hwz
                rw [hi]
                go_wp2_with fail
                refine (reflast_any s [102, 110] _ hs (by decide)).mono ?_
                rintro e v21l ⟨rfl, hwz⟩
                subst hwz
                go_wp2
                go_roundw
                case rel => exact ⟨n + 1, by omega, by go_num, by rw [HS.out], hb⟩
                case measure => simp [intOf]; omega
              · have hiso : isO k s x = true := by rw [isO_in]; rw [if_pos ⟨hk4, XC.out⟩, hl]
                have HS : Hid (optionsK k s (n + 1) = optionsK k s n ++ [x]) := by show _ = _; rw [hsu.out, hiso]; rfl
                clear hiso
                have hlb : (((lastF [102, 110] s).toNat : Int) == (x.toNat : Int)) = true := by simp at hl; rw [hl]; simp
                clear hl
                go_wp2_with fail
                refine (refIn_any s x _ hs).mono ?_
                rintro e v22w ⟨rfl, hwz⟩
                subst hwz
                rw [hi]
                go_wp2_with fail
                refine (reflast_any s [102, 110] _ hs (by decide)).mono ?_
                rintro e v22l ⟨rfl, hwz⟩
                subst hwz
                have hcv := run_new_string (P := Tryd.prog) wr 34 9 Tryd.underlying34 Tryd.underlying5 Tryd.underlying9 [x] #[.int .u8 (x.toNat : Int)] rfl 1 rfl
                go_wp2
                go_roundw
                case rel => exact ⟨n + 1, by omega, by go_num, by rw [HS.out], hb.alloc hb.size _⟩
                case measure => simp [intOf]; omega
            · cases hl : (lastF [102, 110] s == x)
              · have hiso : isO k s x = false := by rw [isO_in]; rw [if_pos ⟨hk4, XC.out⟩, hl]
                have HS : Hid (optionsK k s (n + 1) = optionsK k s n) := by show _ = _; rw [hsu.out, hiso]; simp
                clear hiso
                have hlb : (((lastF [102, 110] s).toNat : Int) == (x.toNat : Int)) = false := by simp at hl; rw [beq_eq_false_iff_ne]; intro e; exact hl (UInt8.toNat_inj.1 (by omega))
                clear hl
                go_wp2_with fail
                refine (refIn_any s x _ hs).mono ?_
                rintro e v23w ⟨rfl, hwz⟩
                subst hwz
                rw [hi]
                go_wp2_with fail
                refine (reflast_any s [102, 110] _ hs (by decide)).mono ?_
                rintro e v23l ⟨rfl, hwz⟩
                subst hwz
                go_wp2
                go_roundw
                case rel => exact ⟨n + 1, by omega, by go_num, by rw [HS.out], hb⟩
                case measure => simp [intOf]; omega
              · have hiso : isO k s x = true := by rw [isO_in]; rw [if_pos ⟨hk4, XC.out⟩, hl]
                have HS : Hid (optionsK k s (n + 1) = optionsK k s n ++ [x]) := by show _ = _; rw [hsu.out, hiso]; rfl
                clear hiso
                have hlb : (((lastF [102, 110] s).toNat : Int) == (x.toNat : Int)) = true := by simp at hl; rw [hl]; simp
                clear hl
                go_wp2_with fail
                refine (refIn_any s x _ hs).mono ?_
                rintro e v24w ⟨rfl, hwz⟩
                subst hwz
                rw [hi]
                go_wp2_with fail
                refine (reflast_any s [102, 110] _ hs (by decide)).mono ?_
                rintro e v24l ⟨rfl, hwz⟩
                subst hwz
                have hcv := run_new_string (P := Tryd.prog) wr 34 9 Tryd.underlying34 Tryd.underlying5 Tryd.underlying9 [x] #[.int .u8 (x.toNat : Int)] rfl 1 rfl
                go_wp2
                go_roundw
                case rel => exact ⟨n + 1, by omega, by go_num, by rw [HS.out], hb.alloc hb.size _⟩
                case measure => simp [intOf]; omega
          · cases hi : inB s x
            · have hiso : isO k s x = false := by rw [isO_in]; rw [if_neg (fun c => hk4 c.1), if_neg x114, if_neg x82, hi]
              have HS : Hid (optionsK k s (n + 1) = optionsK k s n) := by show _ = _; rw [hsu.out, hiso]; simp
              clear hiso
              go_wp2_with fail
              refine (refIn_any s x _ hs).mono ?_
              rintro e v25w ⟨rfl, hwz⟩
              subst hwz
              rw [hi]
              go_wp2
              go_roundw
              case rel => exact ⟨n + 1, by omega, by go_num, by rw [HS.out], hb⟩
              case measure => simp [intOf]; omega
            · have hiso : isO k s x = true := by rw [isO_in]; rw [if_neg (fun c => hk4 c.1), if_neg x114, if_neg x82, hi]
              have HS : Hid (optionsK k s (n + 1) = optionsK k s n ++ [x]) := by show _ = _; rw [hsu.out, hiso]; rfl
              clear hiso
              go_wp2_with fail
              refine (refIn_any s x _ hs).mono ?_
              rintro e v26w ⟨rfl, hwz⟩
              subst hwz
              rw [hi]
              have hcv := run_new_string (P := Tryd.prog) wr 34 9 Tryd.underlying34 Tryd.underlying5 Tryd.underlying9 [x] #[.int .u8 (x.toNat : Int)] rfl 1 rfl
              go_wp2
              go_roundw
              case rel => exact ⟨n + 1, by omega, by go_num, by rw [HS.out], hb.alloc hb.size _⟩
              case measure => simp [intOf]; omega
        · have xc : x = 102 ∨ x = 110 := .inr (UInt8.toNat_inj.1 (by rw [hc]; rfl))
          have hxn := HXN.out
          have b82 : ((x.toNat : Int) == 82) = false := by simp; omega
          have b114 : ((x.toNat : Int) == 114) = false := by simp; omega
          have b102 : ((x.toNat : Int) == 102) = false := by simp; omega
          have b110 : ((x.toNat : Int) == 110) = true := by simp; omega
          clear hxn
          have XC := Lib.hid xc
          clear hc xc
          by_cases hk4 : 4 ≤ k
          · cases hi : inB s x
            · cases hl : (lastF [102, 110] s == x)
              · have hiso : isO k s x = false := by rw [isO_in]; rw [if_pos ⟨hk4, XC.out⟩, hl]
                have HS : Hid (optionsK k s (n + 1) = optionsK k s n) := by show _ = _; rw [hsu.out, hiso]; simp
                clear hiso
                have hlb : (((lastF [102, 110] s).toNat : Int) == (x.toNat : Int)) = false := by simp at hl; rw [beq_eq_false_iff_ne]; intro e; exact hl (UInt8.toNat_inj.1 (by omega))
                clear hl
                go_wp2_with fail
                refine (refIn_any s x _ hs).mono ?_
                rintro e v27w ⟨rfl, hwz⟩
                subst hwz
                rw [hi]
                go_wp2_with fail
                refine (reflast_any s [102, 110] _ hs (by decide)).mono ?_
                rintro e v27l ⟨rfl, hwz⟩
                subst hwz
                go_wp2
                go_roundw
                case rel => exact ⟨n + 1, by omega, by go_num, by rw [HS.out], hb⟩
                case measure => simp [intOf]; omega
              · have hiso : isO k s x = true := by rw [isO_in]; rw [if_pos ⟨hk4, XC.out⟩, hl]
                have HS : Hid (optionsK k s (n + 1) = optionsK k s n ++ [x]) := by show _ = _; rw [hsu.out, hiso]; rfl
                clear hiso
                have hlb : (((lastF [102, 110] s).toNat : Int) == (x.toNat : Int)) = true := by simp at hl; rw [hl]; simp
                clear hl
                go_wp2_with fail
                refine (refIn_any s x _ hs).mono ?_
                rintro e v28w ⟨rfl, hwz⟩
                subst hwz
                rw [hi]
                go_wp2_with fail
                refine (reflast_any s [102, 110] _ hs (by decide)).mono ?_
                rintro e v28l ⟨rfl, hwz⟩
                subst hwz
                have hcv := run_new_string (P := Tryd.prog) wr 34 9 Tryd.underlying34 Tryd.underlying5 Tryd.underlying9 [x] #[.int .u8 (x.toNat : Int)] rfl 1 rfl
                go_wp2
                go_roundw
                case rel => exact ⟨n + 1, by omega, by go_num, by rw [HS.out], hb.alloc hb.size _⟩
                case measure => simp [intOf]; omega
            · cases hl : (lastF [102, 110] s == x)
              · have hiso : isO k s x = false := by rw [isO_in]; rw [if_pos ⟨hk4, XC.out⟩, hl]
                have HS : Hid (optionsK k s (n + 1) = optionsK k s n) := by show _ = _; rw [hsu.out, hiso]; simp
                clear hiso
                have hlb : (((lastF [102, 110] s).toNat : Int) == (x.toNat : Int)) = false := by simp at hl; rw [beq_eq_false_iff_ne]; intro e; exact hl (UInt8.toNat_inj.1 (by omega))
                clear hl
                go_wp2_with fail
                refine (refIn_any s x _ hs).mono ?_
                rintro e v29w ⟨rfl, hwz⟩
                subst hwz
                rw [hi]
                go_wp2_with fail
                refine (reflast_any s [102, 110] _ hs (by decide)).mono ?_
                rintro e v29l ⟨rfl, hwz⟩
                subst hwz
                go_wp2
                go_roundw
                case rel => exact ⟨n + 1, by omega, by go_num, by rw [HS.out], hb⟩
                case measure => simp [intOf]; omega
              · have hiso : isO k s x = true := by rw [isO_in]; rw [if_pos ⟨hk4, XC.out⟩, hl]
                have HS : Hid (optionsK k s (n + 1) = optionsK k s n ++ [x]) := by show _ = _; rw [hsu.out, hiso]; rfl
                clear hiso
                have hlb : (((lastF [102, 110] s).toNat : Int) == (x.toNat : Int)) = true := by simp at hl; rw [hl]; simp
                clear hl
                go_wp2_with fail
                refine (refIn_any s x _ hs).mono ?_
                rintro e v30w ⟨rfl, hwz⟩
                subst hwz
                rw [hi]
                go_wp2_with fail
                refine (reflast_any s [102, 110] _ hs (by decide)).mono ?_
                rintro e v30l ⟨rfl, hwz⟩
                subst hwz
                have hcv := run_new_string (P := Tryd.prog) wr 34 9 Tryd.underlying34 Tryd.underlying5 Tryd.underlying9 [x] #[.int .u8 (x.toNat : Int)] rfl 1 rfl
                go_wp2
                go_roundw
                case rel => exact ⟨n + 1, by omega, by go_num, by rw [HS.out], hb.alloc hb.size _⟩
                case measure => simp [intOf]; omega
          · cases hi : inB s x
            · have hiso : isO k s x = false := by rw [isO_in]; rw [if_neg (fun c => hk4 c.1), if_neg x114, if_neg x82, hi]
              have HS : Hid (optionsK k s (n + 1) = optionsK k s n) := by show _ = _; rw [hsu.out, hiso]; simp
              clear hiso
              go_wp2_with fail
              refine (refIn_any s x _ hs).mono ?_
              rintro e v31w ⟨rfl, hwz⟩
              subst hwz
              rw [hi]
              go_wp2
              go_roundw
              case rel => exact ⟨n + 1, by omega, by go_num, by rw [HS.out], hb⟩
              case measure => simp [intOf]; omega
            · have hiso : isO k s x = true := by rw [isO_in]; rw [if_neg (fun c => hk4 c.1), if_neg x114, if_neg x82, hi]
              have HS : Hid (optionsK k s (n + 1) = optionsK k s n ++ [x]) := by show _ = _; rw [hsu.out, hiso]; rfl
              clear hiso
              go_wp2_with fail
              refine (refIn_any s x _ hs).mono ?_
              rintro e v32w ⟨rfl, hwz⟩
              subst hwz
              rw [hi]
              have hcv := run_new_string (P := Tryd.prog) wr 34 9 Tryd.underlying34 Tryd.underlying5 Tryd.underlying9 [x] #[.int .u8 (x.toNat : Int)] rfl 1 rfl
              go_wp2
              go_roundw
              case rel => exact ⟨n + 1, by omega, by go_num, by rw [HS.out], hb.alloc hb.size _⟩
              case measure => simp [intOf]; omega
      have xc : ¬ (x = 102 ∨ x = 110) := fun e => h102 (e.elim (fun e => .inl (by rw [e]; rfl)) (fun e => .inr (by rw [e]; rfl)))
      have hxn := HXN.out
      have b82 : ((x.toNat : Int) == 82) = false := by simp; omega
      have b114 : ((x.toNat : Int) == 114) = false := by simp; omega
      have b102 : ((x.toNat : Int) == 102) = false := by simp; omega
      have b110 : ((x.toNat : Int) == 110) = false := by simp; omega
      clear hxn
      by_cases hk4 : 4 ≤ k
      · cases hi : inB s x
        · have hiso : isO k s x = false := by rw [isO_in]; rw [if_neg (fun c => xc c.2), if_neg x114, if_neg x82, hi]
          have HS : Hid (optionsK k s (n + 1) = optionsK k s n) := by show _ = _; rw [hsu.out, hiso]; simp
          clear hiso
          go_wp2_with fail
          refine (refIn_any s x _ hs).mono ?_
          rintro e v33w ⟨rfl, hwz⟩
          subst hwz
          rw [hi]
          go_wp2
          go_roundw
          case rel => exact ⟨n + 1, by omega, by go_num, by rw [HS.out], hb⟩
          case measure => simp [intOf]; omega
        · have hiso : isO k s x = true := by rw [isO_in]; rw [if_neg (fun c => xc c.2), if_neg x114, if_neg x82, hi]
          have HS : Hid (optionsK k s (n + 1) = optionsK k s n ++ [x]) := by show _ = _; rw [hsu.out, hiso]; rfl
          clear hiso
          go_wp2_with fail
          refine (refIn_any s x _ hs).mono ?_
          rintro e v34w ⟨rfl, hwz⟩
          subst hwz
          rw [hi]
          have hcv := run_new_string (P := Tryd.prog) wr 34 9 Tryd.underlying34 Tryd.underlying5 Tryd.underlying9 [x] #[.int .u8 (x.toNat : Int)] rfl 1 rfl
          go_wp2
          go_roundw
          case rel => exact ⟨n + 1, by omega, by go_num, by rw [HS.out], hb.alloc hb.size _⟩
          case measure => simp [intOf]; omega
      · cases hi : inB s x
        · have hiso : isO k s x = false := by rw [isO_in]; rw [if_neg (fun c => xc c.2), if_neg x114, if_neg x82, hi]
          have HS : Hid (optionsK k s (n + 1) = optionsK k s n) := by show _ = _; rw [hsu.out, hiso]; simp
          clear hiso
          go_wp2_with fail
          refine (refIn_any s x _ hs).mono ?_
          rintro e v35w ⟨rfl, hwz⟩
          subst hwz
          rw [hi]
          go_wp2
          go_roundw
          case rel => exact ⟨n + 1, by omega, by go_num, by rw [HS.out], hb⟩
          case measure => simp [intOf]; omega
        · have hiso : isO k s x = true := by rw [isO_in]; rw [if_neg (fun c => xc c.2), if_neg x114, if_neg x82, hi]
          have HS : Hid (optionsK k s (n + 1) = optionsK k s n ++ [x]) := by show _ = _; rw [hsu.out, hiso]; rfl
          clear hiso
          go_wp2_with fail
          refine (refIn_any s x _ hs).mono ?_
          rintro e v36w ⟨rfl, hwz⟩
          subst hwz
          rw [hi]
          have hcv := run_new_string (P := Tryd.prog) wr 34 9 Tryd.underlying34 Tryd.underlying5 Tryd.underlying9 [x] #[.int .u8 (x.toNat : Int)] rfl 1 rfl
          go_wp2
          go_roundw
          case rel => exact ⟨n + 1, by omega, by go_num, by rw [HS.out], hb.alloc hb.size _⟩
          case measure => simp [intOf]; omega
    · obtain rfl : n = 58 := by omega
      go_wp2
      go_ret
      exact ⟨rfl, hb⟩
end Go.Proofs.YtboceckeebhfoaaDoor

/- Slices of texts: one that came in, one of the call's own. -/
set_option linter.unusedVariables false
set_option linter.unusedSimpArgs false
namespace Go.Proofs.YtboceckeebhfoaaDoor
open Go.RowKit

def strsV (ws : List (List UInt8)) : List Value := ws.map fun l => .string ⟨l.toArray⟩

/-- A slice that reads as these texts. -/
def Strs (w : World) (v : Value) (l : List (List UInt8)) : Prop :=
  ∃ a cap, v = .slice a l.length cap ∧ l.length ≤ maxLen ∧ (0 < l.length → ∃ b off, a = some ⟨b, off, none⟩ ∧ b < w.heap.size ∧ ∀ i (h : i < l.length), w.cell? ⟨b, off + i, none⟩ = some (.string ⟨l[i].toArray⟩))

theorem Strs.below {w w' : World} {v : Value} {l : List (List UInt8)} (h : Strs w v l) (hb : Below w.heap.size w w') : Strs w' v l := by
  obtain ⟨a, cap, rfl, hm, h1⟩ := h
  refine ⟨a, cap, rfl, hm, fun hl => ?_⟩
  obtain ⟨b, off, rfl, hlt, hc⟩ := h1 hl
  exact ⟨b, off, rfl, Nat.lt_of_lt_of_le hlt hb.size, fun i hi => (hb.cell (p := ⟨b, off + i, none⟩) hlt).trans (hc i hi)⟩

theorem Strs.nil_ (w : World) : Strs w (.slice none 0 0) [] := ⟨none, 0, rfl, Nat.zero_le _, fun h => absurd h (by simp)⟩

theorem own_strs {w : World} {base : Nat} {e : TypeId} {v : Value} {n : Nat} {l : List (List UInt8)} (h : w.ownsRow base e 1 v n (strsV l)) : Strs w v l := by
  have hlen := h.1
  simp [strsV] at hlen
  subst hlen
  rcases h.2 with ⟨rfl, h0⟩ | ⟨g, cap, cur, rfl, hg, hh, hnc, hcm, hsz, htk⟩
  · have : l = [] := List.eq_nil_of_length_eq_zero h0
    subst this
    exact ⟨none, 0, rfl, Nat.zero_le _, fun h => absurd h (by simp)⟩
  · refine ⟨_, cap, rfl, by omega, fun _ => ⟨g, 0, rfl, ?_, fun i hi => ?_⟩⟩
    · exact (h.lt g rfl).2
    · have hc := World.ownsRow.cells h (g := g) rfl i (.string ⟨l[i].toArray⟩) (by simp [strsV, List.getElem?_eq_getElem hi])
      rw [Addr.add_lit] at hc
      exact hc

/-- Texts in a block that was just made for them. -/
theorem new_strs (w : World) (t : TypeId) (C : Array Value) (l : List (List UInt8)) (n cap : Nat) (hC : C = (strsV l).toArray) (hn : n = l.length) (hm : l.length ≤ maxLen) : Strs (w.alloc (.cells C t)) (.slice (some ⟨w.heap.size, 0, none⟩) n cap) l := by
  subst hC hn
  refine ⟨_, cap, rfl, hm, fun _ => ⟨w.heap.size, 0, rfl, by simp, fun i hi => ?_⟩⟩
  have := cells_block w (strsV l).toArray t i (.string ⟨l[i].toArray⟩) (by simp [strsV, List.getElem?_eq_getElem hi])
  rw [Addr.add_lit] at this
  exact this

theorem bytesV_str (l : List UInt8) : Lib.strCells ⟨l.toArray⟩ = bytesV l := by simp [Lib.strCells, bytesV]
end Go.Proofs.YtboceckeebhfoaaDoor

/- The document's Same: the same texts, in the same order. -/
set_option linter.unusedVariables false
set_option linter.unusedSimpArgs false
namespace Go.Proofs.YtboceckeebhfoaaDoor
open Go.RowKit

theorem Same_any (la lb : List (List UInt8)) (va vb : Value) (w : World) (ha : Strs w va la) (hb : Strs w vb lb) :
    Calls Tryd.prog 17 #[va, vb] w fun e w' => e = .returned (.bool (decide (la = lb))) ∧ Below w.heap.size w w' := by
  obtain ⟨a, ca, rfl, hma, HA⟩ := ha
  obtain ⟨b, cb, rfl, hmb, HB⟩ := hb
  unfold maxLen at hma hmb
  by_cases hl : la.length = lb.length
  · have HA' := Lib.hid HA
    have HB' := Lib.hid HB
    clear HA HB
    have hne : ((la.length : Int) != (lb.length : Int)) = false := by simp; omega
    have HL := Lib.hid hl
    have hl2 : la.length ≤ lb.length := by omega
    clear hl
    go_enter Tryd.func17, Tryd.ntmps17
    go_wp2
    go_loopw [5] (fun i wr => ∃ k : Nat, k ≤ la.length ∧ i = .int .i64 k ∧ Aside (la.take k = lb.take k) ∧ Below w.heap.size w wr) (fun i _ => la.length - (intOf i).toNat)
    case atStart => exact ⟨0, Nat.zero_le _, rfl, rfl, Below.refl _ _⟩
    case round =>
      obtain ⟨k, hk, rfl, HT, hbw⟩ := hrel
      by_cases hlt : k < la.length
      · have hltb : k < lb.length := by omega
        obtain ⟨ba, oa, rfl, hba, hca⟩ := HA'.out (by omega)
        obtain ⟨bb, ob, rfl, hbb, hcb⟩ := HB'.out (by omega)
        have c1 : wr.cell? ⟨ba, oa + k, none⟩ = some (.string ⟨la[k].toArray⟩) := (hbw.cell (p := ⟨ba, oa + k, none⟩) hba).trans (hca k hlt)
        have c2 : wr.cell? ⟨bb, ob + k, none⟩ = some (.string ⟨lb[k].toArray⟩) := (hbw.cell (p := ⟨bb, ob + k, none⟩) hbb).trans (hcb k hltb)
        clear hca hcb
        have k0 : (0 : Int) ≤ (k : Int) := by omega
        have k1 : (k : Int) < (la.length : Int) := by omega
        have k2 : (k : Int) < (lb.length : Int) := by omega
        cases he : la[k] == lb[k]
        · have hne2 : Hid (decide (la = lb) = false) := by
            show _ = _
            rw [decide_eq_false_iff_not]
            intro e
            subst e
            simp at he
          go_wp2
          go_quiet (fail)
          go_wp2
          go_ret
          exact ⟨by rw [hne2.out]; rfl, below_drewN hbw _⟩
        · have HT2 : Hid (la.take (k + 1) = lb.take (k + 1)) := by
            show _ = _
            rw [List.take_succ_eq_append_getElem hlt, List.take_succ_eq_append_getElem hltb, HT.out]
            rw [beq_iff_eq] at he; rw [he]
          go_wp2
          go_quiet (fail)
          go_wp2
          go_roundw
          case rel => exact ⟨k + 1, by omega, by go_num, HT2.out, below_drewN hbw _⟩
          case measure => simp [intOf]; omega
      · obtain rfl : k = la.length := by omega
        have heq : Hid (decide (la = lb) = true) := by
          show _ = _
          rw [decide_eq_true_eq]
          have := HT.out
          rw [List.take_length, HL.out, List.take_length] at this
          exact this
        clear HT
        go_wp2
        go_ret
        exact ⟨by rw [heq.out]; rfl, hbw⟩
  · have hne : ((la.length : Int) != (lb.length : Int)) = true := by rw [bne_iff_ne]; omega
    have hd : Hid (decide (la = lb) = false) := by
      show _ = _
      rw [decide_eq_false_iff_not]; rintro rfl; exact hl rfl
    clear HA HB
    go_enter Tryd.func17, Tryd.ntmps17
    go_wp2
    go_ret
    exact ⟨by rw [hd.out]; rfl, Below.refl _ _⟩
end Go.Proofs.YtboceckeebhfoaaDoor

/- Walks: the document's letters; Same of commands. -/
set_option linter.unusedVariables false
set_option linter.unusedSimpArgs false
namespace Go.Proofs.YtboceckeebhfoaaDoor
open Go.RowKit

theorem drop1_len {w : List UInt8} {j : Nat} (h1 : 1 ≤ j) (h : j < w.length) : j - 1 < (w.drop 1).length := by rw [List.length_drop]; omega
theorem drop1_get {w : List UInt8} {j : Nat} (h1 : 1 ≤ j) (h : j < w.length) : (w.drop 1)[j - 1]'(drop1_len h1 h) = w[j] := by
  rw [List.getElem_drop]
  congr 1
  omega
theorem drop1_take {w : List UInt8} {j : Nat} (h1 : 1 ≤ j) (h : j < w.length) : (w.drop 1).take (j + 1 - 1) = (w.drop 1).take (j - 1) ++ [w[j]] := by
  rw [show j + 1 - 1 = (j - 1) + 1 by omega, List.take_succ_eq_append_getElem (drop1_len h1 h), drop1_get h1 h]
theorem take1_at {w : List UInt8} {j : Nat} (h : j < w.length) : (w.drop j).take 1 = [w[j]] := by rw [List.drop_eq_getElem_cons h]; rfl
theorem byte_at {w : List UInt8} {j : Nat} (h : j < w.length) : (⟨w.toArray⟩ : ByteArray).extract j (j + 1) = ⟨[w[j]].toArray⟩ := by
  rw [ByteArray.extract_mk, show j + 1 - j = 1 by omega, take1_at h]
theorem opt_yes {w : List UInt8} (h : 2 ≤ w.length) (e : w[0] = 45) : optW w = true := by
  cases w with
  | nil => simp at h
  | cons c t => simp at e h; subst e; simp [optW]; omega
theorem opt_no {w : List UInt8} (h : 2 ≤ w.length) (e : w[0] ≠ 45) : optW w = false := by
  cases w with
  | nil => simp at h
  | cons c t => simp at e; simp [optW, e]
theorem opt_short {w : List UInt8} (h : w.length < 2) : optW w = false := by unfold optW; rw [decide_eq_false (by omega)]; rfl
theorem let_size {all : List UInt8} {l : List (List UInt8)} {n : Nat} {s : List UInt8} (h : LetAt all l n s) (he : ∀ x ∈ l, x.length ≤ 1000) (hl : l.length ≤ 1000) : s.length ≤ 1000000 := by
  have h1 := letters_len all 1000 he
  rw [h.eq] at h1
  have := h1.1
  rw [List.length_append] at this
  have h2 : l.length * 1000 ≤ 1000 * 1000 := Nat.mul_le_mul_right _ hl
  omega

set_option maxHeartbeats 8000000 in
set_option maxRecDepth 100000 in
theorem refletters_any (k : Int) (l : List (List UInt8)) (v : Value) (w : World) (hv : Strs w v l) (hk : 1 ≤ k ∧ k ≤ 5) (hl : l.length ≤ 1000) (he : ∀ x ∈ l, x.length ≤ 1000) :
    Calls Tryd.prog 25 #[.int .i64 k, v] w fun e w' => e = .returned (.tuple #[.string ⟨(lettersN (allK k) l).1.toArray⟩, .int .i64 ((lettersN (allK k) l).2.1 : Int), .string ⟨(lettersN (allK k) l).2.2.toArray⟩]) ∧ Below w.heap.size w w' := by
  obtain ⟨a, ca, rfl, hm, HA0⟩ := hv
  unfold maxLen at hm
  have HA := Lib.hid HA0
  have HE := Lib.hid he
  clear HA0 he
  go_enter Tryd.func25, Tryd.ntmps25
  go_upto_region 1 with fail
  go_cut [7] from 11 (fun s7 wc => s7 = .string ⟨(allK k).toArray⟩ ∧ Below w.heap.size w wc)
  case first =>
    obtain ⟨h1, h2⟩ := hk
    obtain rfl | rfl | rfl | rfl | rfl : k = 1 ∨ k = 2 ∨ k = 3 ∨ k = 4 ∨ k = 5 := by omega
    all_goals clear h1 h2
    all_goals (go_wp2_with fail; go_meet)
    all_goals exact ⟨rfl, below_new _ _⟩
  case rest =>
    obtain ⟨rfl, hbc⟩ := hcut
    have hak : (allK k).length ≤ 1000000 := by
      obtain ⟨h1, h2⟩ := hk
      obtain rfl | rfl | rfl | rfl | rfl : k = 1 ∨ k = 2 ∨ k = 3 ∨ k = 4 ∨ k = 5 := by omega
      all_goals decide
    clear hk
    generalize hal : allK k = al at *
    have HAL := Lib.hid hal
    clear hal
    go_wp2
    go_loopw [8, 9] (fun s8 s9 wr => ∃ (n : Nat) (s : List UInt8), n ≤ l.length ∧ s9 = .int .i64 (n : Int) ∧ s8 = .string ⟨s.toArray⟩ ∧ Below w.heap.size w wr ∧ Aside (LetAt al l n s)) (fun _ s9 _ => l.length - (intOf s9).toNat)
    case atStart => exact ⟨0, [], Nat.zero_le _, rfl, rfl, hbc, let_start _ _⟩
    case round =>
      obtain ⟨n, s, hn, rfl, rfl, hbw, HL⟩ := hrel
      clear hbc
      by_cases hlt : n < l.length
      rotate_left
      · obtain rfl : n = l.length := by omega
        have HN := Lib.hid (let_end HL.out)
        clear HL
        go_wp2
        go_ret3
        exact ⟨by rw [HAL.out, HN.out]; rfl, hbw⟩
      obtain ⟨b, o, rfl, hb, hc⟩ := HA.out (by omega)
      have c1 : wr.cell? ⟨b, o + n, none⟩ = some (.string ⟨l[n].toArray⟩) := (hbw.cell (p := ⟨b, o + n, none⟩) hb).trans (hc n hlt)
      have hsz := let_size HL.out HE.out hl
      have hwl := HE.out l[n] (List.getElem_mem hlt)
      clear hc
      cases hdd : (l[n] == [45, 45])
      rotate_left
      · have HN := Lib.hid (let_dash HL.out hlt (by simpa using hdd))
        clear HL
        go_wp2
        go_ret3
        exact ⟨by rw [HAL.out, HN.out]; rfl, hbw⟩
      have hdd2 : ¬ l[n] = [45, 45] := by simpa using hdd
      by_cases h2 : l[n].length < 2
      · have HN := Lib.hid (let_word HL.out hlt hdd2 (opt_short h2))
        clear HL hdd2
        go_wp2
        go_ret3
        exact ⟨by rw [HAL.out, HN.out]; rfl, hbw⟩
      have hl0 : 0 < l[n].length := by omega
      cases h45 : ((l[n][0].toNat : Int) != 45)
      rotate_left
      · have HN := Lib.hid (let_word HL.out hlt hdd2 (opt_no (by omega) (fun e => by rw [e] at h45; exact absurd h45 (by decide))))
        clear HL hdd2
        go_wp2
        go_ret3
        exact ⟨by rw [HAL.out, HN.out]; rfl, hbw⟩
      have hop := opt_yes (w := l[n]) (by omega) (by simp at h45; exact UInt8.toNat_inj.1 (by simp; omega))
      have HB := Lib.hid (fun h => let_bad HL.out hlt hdd2 hop h)
      have HX := Lib.hid (fun h => let_next HL.out hlt hdd2 hop h)
      clear HL hdd2 hop
      go_wp2
      go_loopw [8, 10] (fun s8 s10 wq => ∃ j : Nat, 1 ≤ j ∧ j ≤ l[n].length ∧ s10 = .int .i64 (j : Int) ∧ s8 = .string ⟨(s ++ (l[n].drop 1).take (j - 1)).toArray⟩ ∧ Below wr.heap.size wr wq ∧ Aside (ScanAt al (l[n].drop 1) (j - 1))) (fun _ s10 _ => l[n].length - (intOf s10).toNat)
      case atStart => exact ⟨1, Nat.le_refl _, hl0, rfl, by simp, Below.refl _ _, scan_start _ _⟩
      case round =>
        obtain ⟨j, hj1, hj, rfl, rfl, hbq, HS⟩ := hrel
        have c2 := (hbq.cell (p := ⟨b, o + n, none⟩) (Nat.lt_of_lt_of_le hb hbw.size)).trans c1
        have hB := hbw.trans (hbq.mono hbw.size)
        have htl : ((l[n].drop 1).take (j - 1)).length ≤ 1000 := by rw [List.length_take, List.length_drop]; omega
        by_cases hjl : j < l[n].length
        · cases hin : inB al l[n][j]
          · have HN := Lib.hid (HB.out (by rw [scan_stop HS.out (drop1_len hj1 hjl) (by rw [drop1_get hj1 hjl]; exact hin)]; simp))
            have HT := Lib.hid (scan_stop HS.out (drop1_len hj1 hjl) (by rw [drop1_get hj1 hjl]; exact hin))
            have hg := Lib.hid (drop1_get hj1 hjl)
            clear HB HX HS c1
            go_wp2_with fail
            refine (refIn_any al l[n][j] _ hak).mono ?_
            rintro e w2 ⟨rfl, hwz⟩
            subst hwz
            rw [hin]
            go_upto_region 14 with fail
            go_quiet (fail)
            go_wp2
            go_ret3
            exact ⟨by rw [HAL.out, HN.out, HT.out, hg.out]; simp [byte_at hjl], below_drewN hB _⟩
          · have HS2 := Lib.hid (scan_next HS.out (drop1_len hj1 hjl) (by rw [drop1_get hj1 hjl]; exact hin))
            have HTK := Lib.hid (drop1_take hj1 hjl)
            clear HB HX HS c1
            go_wp2_with fail
            refine (refIn_any al l[n][j] _ hak).mono ?_
            rintro e w2 ⟨rfl, hwz⟩
            subst hwz
            rw [hin]
            go_wp2
            go_roundw
            case rel => exact ⟨j + 1, by omega, hjl, by go_num, by rw [HTK.out]; simp [byte_at hjl, ByteArray.mk_append_mk], hbq, by rw [show j + 1 - 1 = j - 1 + 1 by omega]; exact HS2.out⟩
            case measure => simp [intOf]; omega
        · obtain rfl : j = l[n].length := by omega
          have hal : scanW al (l[n].drop 1) = (l[n].drop 1, []) := scan_end (by have := HS.out; rwa [show l[n].length - 1 = (l[n].drop 1).length by rw [List.length_drop]] at this)
          have HX2 := Lib.hid (HX.out (by rw [hal]))
          have HTT : Hid ((l[n].drop 1).take (l[n].length - 1) = (scanW al (l[n].drop 1)).1) := by
            show _ = _
            rw [hal, show l[n].length - 1 = (l[n].drop 1).length by rw [List.length_drop], List.take_length]
          clear HB HX HS c1 hal
          go_wp2
          go_roundw
          case rel => exact ⟨n + 1, _, hlt, by go_num, rfl, hB, by rw [HTT.out]; exact HX2.out⟩
          case measure => simp [intOf]; omega
end Go.Proofs.YtboceckeebhfoaaDoor

/- A block of cells, known whole. -/
set_option linter.unusedVariables false
set_option linter.unusedSimpArgs false
namespace Go.Proofs.YtboceckeebhfoaaDoor
open Go.RowKit

/-- A block of cells, each of which may be written. -/
def Blk (W : World) (B : Nat) (t : TypeId) (cs : Array Value) : Prop := W.heap[B]? = some (.cells cs t (0, 0))
theorem Blk.lt {W : World} {B : Nat} {t : TypeId} {cs : Array Value} (h : Blk W B t cs) : B < W.heap.size := (Array.getElem?_eq_some_iff.1 h).1
theorem Blk.cell {W : World} {B : Nat} {t : TypeId} {cs : Array Value} (h : Blk W B t cs) (i : Nat) : W.cell? ⟨B, i, none⟩ = cs[i]? := by simp [World.cell?, show W.heap[B]? = _ from h]
theorem Blk.frozen {W : World} {B : Nat} {t : TypeId} {cs : Array Value} (h : Blk W B t cs) (i : Nat) : W.frozen? ⟨B, i, none⟩ = false := by simp [World.frozen?, show W.heap[B]? = _ from h]
theorem Blk.new (W : World) (t : TypeId) (cs : Array Value) : Blk (W.alloc (.cells cs t)) W.heap.size t cs := World.alloc_heap_new W _
theorem Blk.kept {W W' : World} {row : Option Nat} {B : Nat} {t : TypeId} {cs : Array Value} (h : Blk W B t cs) (hg : W.grownBy W' row) (hne : some B ≠ row) : Blk W' B t cs := (hg.block B h.lt hne).trans h
theorem Blk.below {W W' : World} {n B : Nat} {t : TypeId} {cs : Array Value} (h : Blk W B t cs) (hb : Below n W W') (hn : B < n) : Blk W' B t cs := (hb.block B hn).trans h
theorem Blk.next {W W' : World} {B : Nat} {t : TypeId} {cs : Array Value} (h : Blk W B t cs) (hb : Below W.heap.size W W') : Blk W' B t cs := h.below hb h.lt
theorem Blk.alloc {W : World} {B : Nat} {t : TypeId} {cs : Array Value} (h : Blk W B t cs) (o : Obj) : Blk (W.alloc o) B t cs := h.kept (World.grownBy_alloc W o none) (by simp)
theorem Blk.set {W : World} {B : Nat} {t : TypeId} {cs : Array Value} (h : Blk W B t cs) (i : Nat) (v : Value) : Blk (W.setCell ⟨B, i, none⟩ v) B t (cs.setIfInBounds i v) := by
  obtain ⟨hlt, hk⟩ := Array.getElem?_eq_some_iff.1 h
  show (W.heap.modify B _)[B]? = _
  rw [Array.getElem?_eq_getElem (by rw [Array.size_modify]; exact hlt), Array.getElem_modify_self, hk]
  rfl
theorem Blk.other {W : World} {B B2 i : Nat} {t : TypeId} {cs : Array Value} (h : Blk W B t cs) (hne : B ≠ B2) (v : Value) : Blk (W.setCell ⟨B2, i, none⟩ v) B t cs := by
  show (W.setCell ⟨B2, i, none⟩ v).heap[B]? = _
  rw [Below.heap_setCell _ _ _ B (fun e => hne e)]; exact h
theorem grownBy_set (W : World) (b i : Nat) (v : Value) : W.grownBy (W.setCell ⟨b, i, none⟩ v) (some b) :=
  ⟨rfl, rfl, rfl, (KeepsWalks.setCell W _ v).size, fun k _ hk => Below.heap_setCell _ _ _ k (fun e => hk (by rw [e]))⟩
end Go.Proofs.YtboceckeebhfoaaDoor

/- 'append(s, x...)', whatever slice x is (as in WalkB05, for seats without inodes). -/
set_option linter.unusedVariables false
set_option linter.unusedSimpArgs false
namespace Go.Proofs.YtboceckeebhfoaaDoor
open Go.RowKit

/-- 'append(s, x...)' onto what is the call's own, whatever slice x is. -/
theorem wpList_append_all {P : Program} {w : World} {ops : Array Oper} {rest : List Oper} {o : Oper} {a : Act} {Q : Exit → Act → World → Prop} (hgd : o.guard = none) (s x : Operand) (t e : TypeId)
    (ho : o.op = .call { callee := .builtin .append, args := #[s, x], argTypes := #[t, t] })
    {i : TypeInfo} {z : Value} {size bytes : Nat} (ht : P.underlying t = some (.slice e)) (hi : P.info? e = some i) (hz : i.zero = some z)
    (hsize : i.size = size) (hby : i.bytes = bytes) (hzs : z.cells.size = size) (hsz : 0 < size) (hbs : bytes ≤ 128)
    (base : Nat) {v : Value} {n : Nat} {xs : List Value} (ao : Option Addr) (m c : Nat) (news : List Value) (hs : a.eval s = v) (hx : a.eval x = .slice ao m c) (hown : w.ownsRow base e size v n xs) (hnone : ao = none → m = 0 ∧ c = 0)
    (hm : news.length = m * size) (hc : ∀ ad, ao = some ad → ∀ j u, news[j]? = some u → w.cell? (ad.add j) = some u) (h1 : ∀ u ∈ news, u.oneCell' = true) (hb : n + m ≤ 1099511627776) (hbase : base ≤ w.heap.size)
    (hK : ∀ v' w', w'.ownsRow base e size v' (n + m) (xs ++ news) → Below base w w' → wpList P ops Q rest (a.put o.dst v') w') :
    wpList P ops Q (o :: rest) a w := by
  cases ao with
  | some ad =>
    refine wpList_append_own _ hgd s x t ho base e i z size bytes ht hi hz hsize hby hzs hsz v n xs hs hown ad m c news hx hm (hc ad rfl) h1 (by unfold maxLen; omega) ?_ hbase ?_
    · calc (n + m) * bytes ≤ 1099511627776 * 128 := Nat.mul_le_mul hb hbs
        _ ≤ 140737488355328 := by decide
    · intro v' w' h2 h3 _
      exact hK v' w' h2 (own_below hown h3 hbase)
  | none =>
    obtain ⟨rfl, rfl⟩ := hnone rfl
    have hnews : news = [] := List.eq_nil_of_length_eq_zero (by simpa using hm)
    subst hnews
    refine wpList_plain hgd fun K hK' => ?_
    have hrun := run_append_owned_none (P := P) w base t o.type e i size ht hi _ n xs hown
    unfold Oper.wp
    simp [execOp, ho, resolve, invoke, builtin, hs, hx, hrun, Result.andThen]
    exact hK' _ _ (by simpa using hK v w (by simpa using hown) (Below.refl _ _))

/-- The same as one step of a region that draws its order. -/
theorem step_append_all {P : Program} {w : World} {ops : Array Oper} {o : Oper} {a : Act} {K : Act → World → Prop} {Q : Exit → Act → World → Prop} {E : Prop} (hgd : o.guard = none) (s x : Operand) (t e : TypeId)
    (ho : o.op = .call { callee := .builtin .append, args := #[s, x], argTypes := #[t, t] })
    {i : TypeInfo} {z : Value} {size bytes : Nat} (ht : P.underlying t = some (.slice e)) (hi : P.info? e = some i) (hz : i.zero = some z)
    (hsize : i.size = size) (hby : i.bytes = bytes) (hzs : z.cells.size = size) (hsz : 0 < size) (hbs : bytes ≤ 128)
    (base : Nat) {v : Value} {n : Nat} {xs : List Value} (ao : Option Addr) (m c : Nat) (news : List Value) (hs : a.eval s = v) (hx : a.eval x = .slice ao m c) (hown : w.ownsRow base e size v n xs) (hnone : ao = none → m = 0 ∧ c = 0)
    (hm : news.length = m * size) (hc : ∀ ad, ao = some ad → ∀ j u, news[j]? = some u → w.cell? (ad.add j) = some u) (h1 : ∀ u ∈ news, u.oneCell' = true) (hb : n + m ≤ 1099511627776) (hbase : base ≤ w.heap.size)
    (hK : ∀ v' w', w'.ownsRow base e size v' (n + m) (xs ++ news) → Below base w w' → K (a.put o.dst v') w') :
    if Region.wanted o (yielded ops a.tmps) = true then Oper.wp P o a w K Q else E := by
  rw [if_pos (by simp [Region.wanted, hgd])]
  cases ao with
  | some ad =>
    refine wp_append_own w s x t ho base e i z size bytes ht hi hz hsize hby hzs hsz v n xs hs hown ad m c news hx hm (hc ad rfl) h1 (by unfold maxLen; omega) ?_ hbase ?_
    · calc (n + m) * bytes ≤ 1099511627776 * 128 := Nat.mul_le_mul hb hbs
        _ ≤ 140737488355328 := by decide
    · intro v' w' h2 h3 _
      exact hK v' w' h2 (own_below hown h3 hbase)
  | none =>
    obtain ⟨rfl, rfl⟩ := hnone rfl
    have hnews : news = [] := List.eq_nil_of_length_eq_zero (by simpa using hm)
    subst hnews
    have hrun := run_append_owned_none (P := P) w base t o.type e i size ht hi _ n xs hown
    unfold Oper.wp
    simp [execOp, ho, resolve, invoke, builtin, hs, hx, hrun, Result.andThen]
    exact hK v w (by simpa using hown) (Below.refl _ _)
end Go.Proofs.YtboceckeebhfoaaDoor

/- A drawn region's operations, taken one by one: its destination given outright; one that no guard wants is passed over. -/
set_option linter.unusedVariables false
set_option linter.unusedSimpArgs false
namespace Go.Proofs.YtboceckeebhfoaaDoor

section
variable {P : Program} {ops : Array Oper} {Q : Exit → Act → World → Prop} {md : Region.Mode} {S : World → Prop}
theorem heldTake (i : Nat) (d : Option Tmp) {oi : Oper} {v : Value} {fuel : Nat} {listed : Array Bool} {a : Act} {w : World} (hi : ops[i]? = some oi) (hd : oi.dst = d)
    (hs : Region.noSelect ops = true) (hf : Region.free md ops listed i = true) (hr : (Region.ready md ops listed).contains i = true)
    (hQ : ∀ c a w, Q (.panic c) (a.put d v) w → Q (.panic c) a w) (hw : Region.wanted oi (yielded ops a.tmps) = true) (hv : ∀ w, S w → (execOp a.eval oi).run P w = .ok (.value v) w) (hS : S w)
    (h : wpAnyH P md ops Q S fuel (listed.setIfInBounds i true) (a.put d v) w) : wpAnyH P md ops Q S (fuel + 1) listed a w := by
  subst hd
  exact wpAnyH_take hi hs hf hr hQ (.inl ⟨hw, hv⟩) hS h
theorem heldSkip (i : Nat) (d : Option Tmp) {oi : Oper} {fuel : Nat} {listed : Array Bool} {a : Act} {w : World} (hi : ops[i]? = some oi) (hd : oi.dst = d)
    (hs : Region.noSelect ops = true) (hf : Region.free md ops listed i = true) (hr : (Region.ready md ops listed).contains i = true)
    (hQ : ∀ c a w, Q (.panic c) (a.put d undef) w → Q (.panic c) a w) (hw : Region.wanted oi (yielded ops a.tmps) = false) (hS : S w)
    (h : wpAnyH P md ops Q S fuel (listed.setIfInBounds i true) (a.put d undef) w) : wpAnyH P md ops Q S (fuel + 1) listed a w := by
  subst hd
  exact wpAnyH_take hi hs hf hr hQ (.inr ⟨hw, rfl⟩) hS h
end
end Go.Proofs.YtboceckeebhfoaaDoor

/-
  DERIVED: THE SHELF's CONTRACTS AT THIS DUMP, IN PLAIN WORDS (tools/lay-plain.mjs out of 'TrydShelf.lean', which tools/lay-shelf.mjs wrote): THE SAME DECLARATIONS UNDER THE SAME NAMES: 'import', 'namespace', 'open', 'def', 'theorem' AND NOTHING ELSE: no command of the shelf's: FOR A HAND-IN. Each laying: the table of numbers ('.._ren') and one theorem, a field a fact of the dump's own or the kernel's comparison; each contract: ONE APPLICATION.
-/
namespace Go.Proofs
open Go.Shelf
def Tryd.lays137_ren : Go.Shelf.Ren := ⟨fun | 137 => 28 | 217 => 35 | 266 => 36 | n => n, fun | 9 => 9 | 5 => 5 | 3 => 3 | n => n, fun | n => n⟩
theorem Tryd.lays137 : Go.Proofs.Lays.n137 Tryd.prog Tryd.lays137_ren := {
  mixed := by kernel_rfl
  f137 := Tryd.func28.trans (congrArg some (by kernel_rfl))
  f217 := Tryd.func35.trans (congrArg some (by kernel_rfl))
  f266 := Tryd.func36.trans (congrArg some (by kernel_rfl))
  t3 := Tryd.underlying3
  a3 := Tryd.isAgg3
  z3 := Tryd.sizeOf3
  v3 := Tryd.zeroValue3
  t5 := Tryd.underlying5
  a5 := Tryd.isAgg5
  z5 := Tryd.sizeOf5
  v5 := Tryd.zeroValue5
  t9 := Tryd.underlying9
  a9 := Tryd.isAgg9
  z9 := Tryd.sizeOf9
  v9 := Tryd.zeroValue9 }
open Go.RowKit in
/-- strings.IndexByte: "IndexByte returns the index of the first instance of c in s, or -1 if c is not present in s.": IT RETURNS 'Lib.indexByte s c'; the world is as it was. (LAID: no walk: one application.) -/
theorem Tryd.strings_IndexByte (s : ByteArray) (c : Int) (w : World) :
    Calls Tryd.prog 28 #[.string s, .int .u8 c] w fun e w' => e = .returned (.int .i64 (Lib.indexByte s.data.toList c.toNat.toUInt8)) ∧ w' = w := Any.strings_IndexByte Tryd.lays137 s c w
def Tryd.laysM316_ren : Go.Shelf.Ren := ⟨fun | 316 => 34 | n => n, fun | 9 => 9 | 3 => 3 | 4 => 4 | 37 => 34 | 0 => 0 | 127 => 60 | 5 => 5 | n => n, fun | n => n⟩
theorem Tryd.laysM316 : Go.Proofs.LaysM.n316 Tryd.prog Tryd.laysM316_ren := {
  mixed := by kernel_rfl
  f316 := Tryd.func34.trans (congrArg some (by kernel_rfl))
  t0 := Tryd.underlying0
  a0 := Tryd.isAgg0
  z0 := Tryd.sizeOf0
  v0 := Tryd.zeroValue0
  t3 := Tryd.underlying3
  a3 := Tryd.isAgg3
  z3 := Tryd.sizeOf3
  v3 := Tryd.zeroValue3
  t4 := Tryd.underlying4
  a4 := Tryd.isAgg4
  z4 := Tryd.sizeOf4
  v4 := Tryd.zeroValue4
  t9 := Tryd.underlying9
  a9 := Tryd.isAgg9
  z9 := Tryd.sizeOf9
  v9 := Tryd.zeroValue9
  t37 := Tryd.underlying34
  a37 := Tryd.isAgg34
  z37 := Tryd.sizeOf34
  v37 := Tryd.zeroValue34
  t127 := Tryd.underlying60
  a127 := Tryd.isAgg60
  z127 := Tryd.sizeOf60
  v127 := Tryd.zeroValue60
  t5 := Tryd.underlying5
  a5 := Tryd.isAgg5
  z5 := Tryd.sizeOf5
  v5 := Tryd.zeroValue5
  i0 := by kernel_rfl
  i3 := by kernel_rfl
  i4 := by kernel_rfl
  i5 := by kernel_rfl
  i9 := by kernel_rfl
  i37 := by kernel_rfl
  i127 := by kernel_rfl }
open Go.RowKit in
/-- internal/stringslite.Clone (what strings.Clone calls): "Clone returns a fresh copy of s.": THE SAME BYTES. Of what was there nothing has turned (a new row is laid, and frozen, where s is not empty). (LAID: no walk: one application.) -/
theorem Tryd.stringslite_Clone (s : ByteArray) (w : World) (hlim : s.size ≤ 281474976710656) :
    Calls Tryd.prog 34 #[.string s] w fun e w' => e = .returned (.string s) ∧ Below w.heap.size w w' := Any.stringslite_Clone Tryd.laysM316 s w hlim
def Tryd.lays217_ren : Go.Shelf.Ren := ⟨fun | 217 => 35 | 266 => 36 | n => n, fun | 9 => 9 | 5 => 5 | 3 => 3 | n => n, fun | n => n⟩
theorem Tryd.lays217 : Go.Proofs.Lays.n217 Tryd.prog Tryd.lays217_ren := {
  mixed := by kernel_rfl
  f217 := Tryd.func35.trans (congrArg some (by kernel_rfl))
  f266 := Tryd.func36.trans (congrArg some (by kernel_rfl))
  t3 := Tryd.underlying3
  a3 := Tryd.isAgg3
  z3 := Tryd.sizeOf3
  v3 := Tryd.zeroValue3
  t5 := Tryd.underlying5
  a5 := Tryd.isAgg5
  z5 := Tryd.sizeOf5
  v5 := Tryd.zeroValue5
  t9 := Tryd.underlying9
  a9 := Tryd.isAgg9
  z9 := Tryd.sizeOf9
  v9 := Tryd.zeroValue9 }
open Go.RowKit Go.Lib in
/-- internal/stringslite.IndexByte (what strings.IndexByte calls): IT RETURNS 'Lib.indexByte s c'; the world is as it was. (LAID: no walk: one application.) -/
theorem Tryd.stringslite_IndexByte (s : ByteArray) (c : Int) (w : World) :
    Calls Tryd.prog 35 #[.string s, .int .u8 c] w fun e w' => e = .returned (.int .i64 (Lib.indexByte s.data.toList c.toNat.toUInt8)) ∧ w' = w := Any.stringslite_IndexByte Tryd.lays217 s c w
end Go.Proofs

/- strings.Clone: the same bytes. -/
set_option linter.unusedVariables false
set_option linter.unusedSimpArgs false
namespace Go.Proofs.YtboceckeebhfoaaDoor
open Go.RowKit

theorem Clone_any (l : List UInt8) (w : World) (hl : l.length ≤ 100000000) :
    Calls Tryd.prog 27 #[.string ⟨l.toArray⟩] w fun e w' => e = .returned (.string ⟨l.toArray⟩) ∧ Below w.heap.size w w' := by
  go_enter Tryd.func27, Tryd.ntmps27
  go_wp2_with fail
  refine (Tryd.stringslite_Clone _ _ (by simp [ByteArray.size]; omega)).mono ?_
  rintro e w' ⟨rfl, hB⟩
  go_wp2
  go_ret
  exact ⟨rfl, hB⟩
end Go.Proofs.YtboceckeebhfoaaDoor

/- Walks: package quote's bytes and forms. -/
set_option linter.unusedVariables false
set_option linter.unusedSimpArgs false
namespace Go.Proofs.YtboceckeebhfoaaDoor
open Go.RowKit

theorem bare_any (c : UInt8) (w : World) :
    Calls Tryd.prog 29 #[.int .u8 (c.toNat : Int)] w fun e w' => e = .returned (.bool (bareB c)) ∧ w = w' := by
  have h0 : (0 : Int) ≤ c.toNat := by omega
  go_enter Tryd.func29, Tryd.ntmps29
  go_wp2
  all_goals (go_ret; refine ⟨ret_bool ?_, rfl⟩; rw [Bool.eq_iff_iff]; simp [bareB]; omega)

theorem Tryd.info5 : (Tryd.prog.info? 5).map (fun i => (i.zero, i.size, i.bytes)) = some (some (.int .u8 0), 1, 1) := by kernel_rfl

set_option maxHeartbeats 1000000 in
theorem Quote_any (l : List UInt8) (w : World) (hl : l.length ≤ 1000000) :
    Calls Tryd.prog 20 #[.string ⟨l.toArray⟩] w fun e w' => e = .returned (.string ⟨(quoteB l).toArray⟩) ∧ Below w.heap.size w w' := by
  obtain ⟨i0, hi, hz0, hz1, hz2⟩ := info_parts Tryd.info5
  go_enter Tryd.func20, Tryd.ntmps20
  go_wp2_with (first | (at_make; (refine wpList_make_own _ rfl _ _ 34 rfl w.heap.size 5 i0 (.int .u8 0) 1 Tryd.underlying34 hi hz0 hz1 _ _ _ (l.length + 2) rfl rfl (by omega) (by rw [hz2]; omega) (by unfold maxLen; omega) (Nat.le_refl _) ?_); intro w1 hown1 hgr1) | (at_builtin; (refine wpList_append_new rfl (.tmp 9) (.tmp 10) 34 5 rfl Tryd.underlying34 hi hz0 hz1 hz2 rfl (by decide) (by decide) w.heap.size _ 1 rfl rfl hown1 rfl (by simp [Value.oneCell']) (by omega) hgr1.size ?_); intro v2 w2 hown2 hgr2))
  have B2 : Below w.heap.size w w2 := ((Below.refl _ _).grown hgr1 (Nat.le_refl _) (by simp)).trans hgr2
  simp only [Nat.zero_add, List.nil_append] at hown2
  clear hown1 hgr1 hgr2
  go_loopw [3, 14] (fun v i wr => ∃ k : Nat, k ≤ l.length ∧ i = .int .i64 k ∧ wr.ownsRow w.heap.size 5 1 v (1 + (formsB (l.take k)).length) (bytesV (34 :: formsB (l.take k))) ∧ Below w.heap.size w wr) (fun _ i _ => l.length - (intOf i).toNat)
  case atStart => exact ⟨0, Nat.zero_le _, rfl, hown2, B2⟩
  case round =>
    obtain ⟨k, hk, rfl, hown, hb⟩ := hrel
    by_cases hlt : k < l.length
    · have hsn := Lib.hid (formsB_snoc l k hlt)
      have hfl := formsB_take_len l k
      have hc := l[k].toNat_lt
      have q0 : (0 : Int) ≤ (l[k].toNat : Int) / 16 := by omega
      have q1 : (l[k].toNat : Int) / 16 < 16 := by omega
      have e15 := bits_and15 l[k].toNat hc
      have r0 : (0 : Int) ≤ (l[k].toNat : Int) % 16 := by omega
      have r1 : (l[k].toNat : Int) % 16 < 16 := by omega
      cases hbk : bareB l[k]
      · go_wp2_with (first | (go_at_call 29; refine (bare_any _ _).mono ?_; rintro e w' ⟨rfl, rfl⟩))
        go_region_held3 (fun w' => True) (exact trivial) ((refine step_append_own (by rfl) (.tmp 27) (.tmp 38) 34 5 (by rfl) Tryd.underlying34 hi hz0 hz1 hz2 rfl (by decide) (by decide) w.heap.size _ 4 _ (by rfl) (by rfl) (hown.alloc _).drew (by rfl) (cells_block _ _ _) (by simp [Value.oneCell']) (by omega) (by have := hb.size; simp; omega) ?_; intro v3 w3 hown3 hb3))
        all_goals
          go_wp2
          go_roundw
          case rel =>
            have g1 := hex_at (l[k].toNat / 16) ((l[k].toNat : Int) / 16) (by omega) (by simp [hexDigits]; omega)
            have g2 := hex_at (l[k].toNat % 16) ((l[k].toNat : Int) % 16) (by omega) (by simp [hexDigits]; omega)
            unfold hexDigits at g1 g2
            rw [g1, g2] at hown3
            refine ⟨k + 1, by omega, by go_num, ?_, hb.trans (((Below.refl _ _).alloc hb.size _).drew.trans hb3)⟩
            rw [hsn.out, formB_hex hbk]; simpa [bytesV, Nat.add_assoc] using hown3
          case measure => simp [intOf]; omega
      · go_wp2_with (first | (go_at_call 29; refine (bare_any _ _).mono ?_; rintro e w' ⟨rfl, rfl⟩) | (at_builtin; refine wpList_append_new rfl (.tmp 21) (.tmp 25) 34 5 rfl Tryd.underlying34 hi hz0 hz1 hz2 rfl (by decide) (by decide) w.heap.size _ 1 rfl rfl hown rfl (by simp [Value.oneCell']) (by omega) hb.size ?_; intro v3 w3 hown3 hb3))
        go_roundw
        case rel => exact ⟨k + 1, by omega, by go_num, by rw [hsn.out, formB_bare hbk]; simpa [bytesV, Nat.add_assoc] using hown3, hb.trans hb3⟩
        case measure => simp [intOf]; omega
    · obtain rfl : k = l.length := by omega
      rw [List.take_length] at hown
      have hfl := formsB_len l
      go_wp2_with (first | (at_builtin; refine wpList_append_new rfl (.tmp 41) (.tmp 42) 34 5 rfl Tryd.underlying34 hi hz0 hz1 hz2 rfl (by decide) (by decide) w.heap.size _ 1 rfl rfl hown rfl (by simp [Value.oneCell']) (by omega) hb.size ?_; intro v3 w3 hown3 hb3; have hcv := run_own_string (P := Tryd.prog) (l := quoteB l) 34 9 Tryd.underlying34 Tryd.underlying5 Tryd.underlying9 (by simpa [bytesV, quoteB] using hown3)))
      go_ret
      exact ⟨rfl, hb.trans hb3⟩

end Go.Proofs.YtboceckeebhfoaaDoor
