/- Texts put together: Pure01, Pure01b, Pure17, Pure18, Pure18b, Aid, WalkA17, WalkB01, Quote17, Pure02, Shelf, Clone, WalkA02, Strs, Few, WalkB02, WalkA18, Pure18c, WalkN18, WalkA01, Blk, WalkM18, WalkO18. -/
import Derived.WalkKit
import Derived.WalkSpells
import Derived.WalkLawsBesides
import Derived.Lib.Hide
import Derived.ShutString
import Derived.Test.YteeahhklbgnepaaDoorChecked
import Derived.Deep.LoopGhost
import Derived.Test.YteeahhklbgnepaaDoorRows
import Derived.StillTailTactics
import Derived.Deep.QuietTactic
import Derived.BigQuiet
import Derived.Shelf.Utf8.RuneCount
import Derived.Shelf.LaysM
import Derived.Shelf.Strconv.Clone
import Derived.Shelf.Strings.Search1
import Derived.Shelf.Strings.Search2
import Derived.Shelf.Strings.Search3
import Derived.Shelf.Strings.Count
import Derived.Shelf.Strings.Shaped
import Derived.Shelf.Strings.Split
import Derived.Shelf.Strings.SplitShaped
import Derived.Shelf.Unicode.Decode
import Derived.Shelf.Strings.RuneCount
import Derived.Shelf.Strings.Explode
import Derived.Shelf.Unicode.DecodeSlow
import Derived.Shelf.Unicode.DecodeAny
import Derived.Test.YteeahhklbgnepaaDoorProg
import Derived.Lib.AppendStr
import Derived.Lib.SplitLaws
import Derived.Shelf.RegionOpenPlain
import Derived.Shelf.Strings.SplitCore
import Derived.Deep.RegionLaw
import Derived.Deep.RegionHeld3
import Derived.Lib.SmallJoins
import Derived.RangeFuncBox
import Derived.Deep.Cut
import Derived.Laws.Tables
set_option linter.unusedVariables false
set_option linter.unusedSimpArgs false
/- Plain functions on lists of bytes: quoting and its form. No walk, no program. -/
namespace Go.Proofs.YteeahhklbgnepaaDoor

/-- A byte that stands for itself between quotes. -/
def bareB (c : UInt8) : Bool := decide (32 ≤ c.toNat) && decide (c.toNat ≤ 126) && !(c.toNat == 34) && !(c.toNat == 92)
abbrev hexDigits : List UInt8 := [48, 49, 50, 51, 52, 53, 54, 55, 56, 57, 97, 98, 99, 100, 101, 102]
def hexD (n : Nat) : UInt8 := hexDigits.getD n 0
/-- A byte's form between quotes. -/
def formB (c : UInt8) : List UInt8 := if bareB c then [c] else [92, 120, hexD (c.toNat / 16), hexD (c.toNat % 16)]
/-- The forms of all bytes. -/
def formsB (l : List UInt8) : List UInt8 := l.flatMap formB
def quoteB (l : List UInt8) : List UInt8 := 34 :: (formsB l ++ [34])
/-- A plain word's byte. -/
def plainC (c : UInt8) : Bool := decide (33 ≤ c.toNat) && decide (c.toNat ≤ 126) && !(c.toNat == 34)
def plainB (l : List UInt8) : Bool := !l.isEmpty && l.all plainC

theorem formB_bare {c : UInt8} (h : bareB c = true) : formB c = [c] := by simp [formB, h]
theorem formB_hex {c : UInt8} (h : bareB c = false) : formB c = [92, 120, hexD (c.toNat / 16), hexD (c.toNat % 16)] := by simp [formB, h]
theorem formB_len (c : UInt8) : (formB c).length ≤ 4 := by unfold formB; split <;> simp
theorem formB_pos (c : UInt8) : 1 ≤ (formB c).length := by unfold formB; split <;> simp
theorem formsB_len (l : List UInt8) : (formsB l).length ≤ 4 * l.length := by
  induction l with
  | nil => simp [formsB]
  | cons c l ih => have := formB_len c; simp only [formsB, List.flatMap_cons, List.length_append, List.length_cons] at *; omega
theorem formsB_snoc (l : List UInt8) (k : Nat) (h : k < l.length) : formsB (l.take (k + 1)) = formsB (l.take k) ++ formB l[k] := by
  unfold formsB; rw [List.take_succ_eq_append_getElem h, List.flatMap_append]; simp only [List.flatMap_cons, List.flatMap_nil, List.append_nil]
theorem formsB_take_len (l : List UInt8) (k : Nat) : (formsB (l.take k)).length ≤ 4 * k := by
  have := formsB_len (l.take k)
  have h2 : (l.take k).length ≤ k := List.length_take_le _ _
  omega
theorem quoteB_len (l : List UInt8) : (quoteB l).length ≤ 4 * l.length + 2 := by
  have := formsB_len l; simp [quoteB]; omega
theorem hex_atN (m : Nat) (h : m < hexDigits.length) : hexDigits[m]'h = hexD m := by
  simp [hexD, List.getD, List.getElem?_eq_getElem h]
theorem hex_at (m : Nat) (q : Int) (hq : q.toNat = m) (h : q.toNat < hexDigits.length) : hexDigits[q.toNat]'h = hexD m := by
  subst hq; simp [hexD, List.getD, List.getElem?_eq_getElem h]
theorem plain_step (l : List UInt8) (k : Nat) (h : k < l.length) (ht : (l.take k).all plainC = true) (hp : plainC l[k] = true) : (l.take (k + 1)).all plainC = true := by
  rw [List.take_succ_eq_append_getElem h, List.all_append, ht]; simp [hp]
theorem plain_no (l : List UInt8) (k : Nat) (h : k < l.length) (hp : plainC l[k] = false) : plainB l = false := by
  rw [Bool.eq_false_iff]
  intro hb
  simp only [plainB, Bool.and_eq_true, List.all_eq_true] at hb
  have := hb.2 l[k] (List.getElem_mem h)
  simp [hp] at this
end Go.Proofs.YteeahhklbgnepaaDoor

/- Plain functions on lists of bytes: reading what is quoted. No walk, no program. -/
set_option linter.unusedVariables false
set_option linter.unusedSimpArgs false
namespace Go.Proofs.YteeahhklbgnepaaDoor

/-- The place of a digit base sixteen: 16, if it is none. -/
def idx16 (c : UInt8) : Nat := hexDigits.findIdx (· == c)
theorem idx16_le (c : UInt8) : idx16 c ≤ 16 := List.findIdx_le_length
theorem hexD_idx16 {c : UInt8} (h : idx16 c < 16) : hexD (idx16 c) = c := by
  have h' : idx16 c < hexDigits.length := h
  have := List.findIdx_getElem (p := (· == c)) (xs := hexDigits) (w := h')
  rw [← hex_atN _ h']; simp only [beq_iff_eq] at this; exact this
theorem idx16_hexD_all : ∀ n : Fin 16, idx16 (hexD n.val) = n.val := by decide
theorem idx16_hexD {n : Nat} (h : n < 16) : idx16 (hexD n) = n := idx16_hexD_all ⟨n, h⟩
theorem idx16_of {c : UInt8} {d : Nat} (hd : d ≤ 16) (hb : ∀ j, j < d → hexD j ≠ c) (he : d < 16 → hexD d = c) : idx16 c = d := by
  rcases Nat.lt_or_ge (idx16 c) d with h | h
  · exact absurd (hexD_idx16 (by omega)) (hb _ h)
  · rcases Nat.lt_or_ge d 16 with h2 | h2
    · have e := he h2
      have := idx16_hexD h2
      rw [e] at this; exact this
    · have := idx16_le c; omega

theorem byte_split (b : UInt8) : (16 * (b.toNat / 16) + b.toNat % 16).toUInt8 = b := by
  have : 16 * (b.toNat / 16) + b.toNat % 16 = b.toNat := by omega
  rw [this]; simp
theorem byte_join {h l : Nat} (hh : h < 16) (hl : l < 16) : (16 * h + l).toUInt8.toNat = 16 * h + l := by
  simp only [Nat.toUInt8_eq, UInt8.toNat_ofNat']; omega

def firstB : List UInt8 → Option (UInt8 × Nat)
  | [] => none
  | c :: r => if bareB c = true then some (c, 1) else
    match r with
    | e :: h :: l :: _ => if c = 92 ∧ e = 120 ∧ idx16 h < 16 ∧ idx16 l < 16 ∧ bareB (16 * idx16 h + idx16 l).toUInt8 = false then some ((16 * idx16 h + idx16 l).toUInt8, 4) else none
    | _ => none

theorem bareB_92 : bareB 92 = false := by decide

theorem firstB_form (b : UInt8) (t : List UInt8) : firstB (formB b ++ t) = some (b, (formB b).length) := by
  cases hb : bareB b
  · have h1 : b.toNat / 16 < 16 := by have := b.toNat_lt; omega
    have h2 : b.toNat % 16 < 16 := by omega
    rw [formB_hex hb]
    have hs := byte_split b
    simp only [List.cons_append, List.nil_append, firstB, bareB_92, idx16_hexD h1, idx16_hexD h2, h1, h2, hs, hb, Bool.false_eq_true, if_false, and_self, if_true]
    rfl
  · rw [formB_bare hb]; simp [firstB, hb]

theorem firstB_some {l : List UInt8} {b : UInt8} {k : Nat} (h : firstB l = some (b, k)) : k = (formB b).length ∧ l = formB b ++ l.drop k := by
  cases l with
  | nil => simp [firstB] at h
  | cons c r =>
    cases hc : bareB c
    · revert h
      match r with
      | [] => intro h; simp [firstB, hc] at h
      | [_] => intro h; simp [firstB, hc] at h
      | [_, _] => intro h; simp [firstB, hc] at h
      | e :: hi :: lo :: t =>
        intro h
        have hE : firstB (c :: e :: hi :: lo :: t) = if bareB c = true then some (c, 1) else if c = 92 ∧ e = 120 ∧ idx16 hi < 16 ∧ idx16 lo < 16 ∧ bareB (16 * idx16 hi + idx16 lo).toUInt8 = false then some ((16 * idx16 hi + idx16 lo).toUInt8, 4) else none := rfl
        rw [hE, if_neg (by simp [hc])] at h
        split at h
        · rename_i hh
          obtain ⟨rfl, rfl, h1, h2, hb⟩ := hh
          injection h with h
          injection h with ha hk
          subst ha hk
          have e := byte_join h1 h2
          have e1 : (16 * idx16 hi + idx16 lo) / 16 = idx16 hi := by omega
          have e2 : (16 * idx16 hi + idx16 lo) % 16 = idx16 lo := by omega
          rw [formB_hex hb, e, e1, e2, hexD_idx16 h1, hexD_idx16 h2]
          simp
        · cases h
    · simp only [firstB, hc, if_true, Option.some.injEq, Prod.mk.injEq] at h
      obtain ⟨rfl, rfl⟩ := h
      simp [formB_bare hc]

theorem formsB_cons (b : UInt8) (x : List UInt8) : formsB (b :: x) = formB b ++ formsB x := by simp [formsB]
theorem formsB_append (x y : List UInt8) : formsB (x ++ y) = formsB x ++ formsB y := by simp [formsB]

/-- What stands behind the forms of x is the forms of the rest. -/
theorem formsB_split : ∀ (x y r : List UInt8), formsB y = formsB x ++ r → ∃ z, y = x ++ z ∧ formsB z = r
  | [], y, r, h => ⟨y, rfl, by simpa [formsB] using h⟩
  | b :: x, y, r, h => by
    rw [formsB_cons, List.append_assoc] at h
    have h1 := firstB_form b (formsB x ++ r)
    rw [← h] at h1
    cases y with
    | nil =>
      have h2 : formsB ([] : List UInt8) = [] := rfl
      rw [h2] at h1; cases h1
    | cons c y =>
      rw [formsB_cons, firstB_form] at h1
      simp only [Option.some.injEq, Prod.mk.injEq] at h1
      obtain ⟨rfl, _⟩ := h1
      rw [formsB_cons] at h
      obtain ⟨z, rfl, hz⟩ := formsB_split x y r (List.append_cancel_left h)
      exact ⟨z, rfl, hz⟩

theorem formsB_inj {x y : List UInt8} (h : formsB x = formsB y) : x = y := by
  obtain ⟨z, rfl, hz⟩ := formsB_split y x [] (by simpa using h)
  cases z with
  | nil => simp
  | cons c z => rw [formsB_cons] at hz; have := formB_pos c; simp at hz; simp [hz.1] at this

theorem quoteB_inj {x y : List UInt8} (h : quoteB x = quoteB y) : x = y := by
  simp only [quoteB, List.cons.injEq, true_and] at h
  exact formsB_inj (List.append_cancel_right h)

/-- What is read between the marks. -/
def readF : Nat → List UInt8 → Option (List UInt8)
  | _, [] => some []
  | 0, _ :: _ => none
  | n + 1, c :: r => match firstB (c :: r) with
    | none => none
    | some (b, k) => (readF n ((c :: r).drop k)).map (b :: ·)

theorem readF_forms : ∀ (x : List UInt8) (n : Nat), (formsB x).length ≤ n → readF n (formsB x) = some x
  | [], n, _ => by cases n <;> rfl
  | b :: x, n, h => by
    rw [formsB_cons] at h ⊢
    have hp := formB_pos b
    have hf := firstB_form b (formsB x)
    match e : formB b, n with
    | [], _ => simp [e] at hp
    | c :: t, 0 => simp [e] at h
    | c :: t, n + 1 =>
      rw [e] at hf h
      simp only [List.cons_append] at hf ⊢
      have hd : (c :: (t ++ formsB x)).drop (c :: t).length = formsB x := by rw [← List.cons_append]; exact List.drop_left
      simp only [readF, hf, hd]
      rw [readF_forms x n (by simp at h; omega)]
      rfl

theorem readF_some : ∀ (n : Nat) (l x : List UInt8), readF n l = some x → formsB x = l
  | _, [], x, h => by simp [readF] at h; subst h; rfl
  | 0, _ :: _, x, h => by simp [readF] at h
  | n + 1, c :: r, x, h => by
    simp only [readF] at h
    split at h
    · cases h
    · rename_i b k hf
      obtain ⟨y, hy, rfl⟩ := Option.map_eq_some_iff.1 h
      rw [formsB_cons, readF_some n _ y hy]
      exact (firstB_some hf).2.symm

/-- The text that is quoted as l, if there is one. -/
def unquoteB : List UInt8 → Option (List UInt8)
  | [] => none
  | c :: r => if c = 34 ∧ r.getLast? = some 34 then readF r.length r.dropLast else none

theorem unquoteB_quote (x : List UInt8) : unquoteB (quoteB x) = some x := by
  simp only [quoteB, unquoteB, List.getLast?_append, List.getLast?_singleton, Option.some_or, and_self, if_true, List.dropLast_concat]
  exact readF_forms x _ (by simp)
theorem unquoteB_some {l x : List UInt8} (h : unquoteB l = some x) : quoteB x = l := by
  cases l with
  | nil => cases h
  | cons c r =>
    simp only [unquoteB] at h
    split at h
    · rename_i hc
      obtain ⟨rfl, hl⟩ := hc
      rw [quoteB, readF_some _ _ _ h]
      congr 1
      have hne : r ≠ [] := by rintro rfl; simp at hl
      have := List.dropLast_concat_getLast hne
      rw [List.getLast?_eq_some_getLast hne] at hl
      simp only [Option.some.injEq] at hl
      rw [hl] at this; exact this
    · cases h
theorem unquoteB_of {l x : List UInt8} (h : quoteB x = l) : unquoteB l = some x := by rw [← h]; exact unquoteB_quote x
theorem unquoteB_none {l : List UInt8} (h : ∀ x, quoteB x ≠ l) : unquoteB l = none := by
  cases e : unquoteB l with
  | none => rfl
  | some x => exact absurd (unquoteB_some e) (h x)

/-- A word: plain, or quoted. -/
def wordB (l : List UInt8) : Bool := plainB l || (unquoteB l).isSome
end Go.Proofs.YteeahhklbgnepaaDoor

/- Commands read of their words, as lists. No program's function. -/
set_option linter.unusedVariables false
set_option linter.unusedSimpArgs false
namespace Go.Proofs.YteeahhklbgnepaaDoor

structure CmdV where
  kind : Int
  opts : List UInt8
  ops : List (List UInt8)
deriving DecidableEq

def nameK (k : Int) : List UInt8 := if k = 1 then [109, 107, 100, 105, 114] else if k = 2 then [114, 109] else if k = 3 then [108, 110] else if k = 4 then [109, 118] else if k = 5 then [99, 112] else []
def allK (k : Int) : List UInt8 := if k = 1 then [112] else if k = 2 then [100, 102, 114, 82] else if k = 3 then [102, 110, 115, 84] else if k = 4 then [102, 110, 84] else if k = 5 then [102, 110, 114, 82, 80, 84] else []
def kindF (w : List UInt8) : Int := if w = nameK 1 then 1 else if w = nameK 2 then 2 else if w = nameK 3 then 3 else if w = nameK 4 then 4 else if w = nameK 5 then 5 else 0
theorem kind_cases (w : List UInt8) : kindF w = 0 ∨ kindF w = 1 ∨ kindF w = 2 ∨ kindF w = 3 ∨ kindF w = 4 ∨ kindF w = 5 := by
  unfold kindF
  repeat' split
  all_goals simp
theorem kind_name {k : Int} (h1 : 1 ≤ k) (h2 : k ≤ 5) : kindF (nameK k) = k := by
  obtain rfl | rfl | rfl | rfl | rfl : k = 1 ∨ k = 2 ∨ k = 3 ∨ k = 4 ∨ k = 5 := by omega
  all_goals decide
theorem name_kind {w : List UInt8} (h : kindF w ≠ 0) : nameK (kindF w) = w := by
  unfold kindF at h ⊢
  repeat' split
  all_goals first | (rename_i h; exact h.symm) | skip
  all_goals simp_all

/-- A word's letters behind its -: those up to the first one that is none, and that one. -/
def scanW (all : List UInt8) : List UInt8 → List UInt8 × List UInt8
  | [] => ([], [])
  | c :: t => if all.contains c = true then (c :: (scanW all t).1, (scanW all t).2) else ([], [c])
theorem scan_yes {all : List UInt8} {c : UInt8} (t : List UInt8) (h : all.contains c = true) : scanW all (c :: t) = (c :: (scanW all t).1, (scanW all t).2) := by rw [scanW, if_pos h]
theorem scan_no {all : List UInt8} {c : UInt8} (t : List UInt8) (h : all.contains c = false) : scanW all (c :: t) = ([], [c]) := by rw [scanW, if_neg (by rw [h]; simp)]
theorem scan_all {all : List UInt8} : ∀ {t : List UInt8}, (∀ c ∈ t, all.contains c = true) → scanW all t = (t, [])
  | [], _ => rfl
  | c :: t, h => by rw [scan_yes t (h c List.mem_cons_self), scan_all fun d hd => h d (List.mem_cons_of_mem _ hd)]
def optW (w : List UInt8) : Bool := decide (2 ≤ w.length) && w.head? == some 45
/-- The letters of words of options, how many words these are, and the first letter that is none. -/
def lettersN (all : List UInt8) : List (List UInt8) → List UInt8 × Nat × List UInt8
  | [] => ([], 0, [])
  | w :: t =>
    if w = [45, 45] then ([], 1, [])
    else if optW w = false then ([], 0, [])
    else if (scanW all (w.drop 1)).2 ≠ [] then ((scanW all (w.drop 1)).1, 0, (scanW all (w.drop 1)).2)
    else ((scanW all (w.drop 1)).1 ++ (lettersN all t).1, (lettersN all t).2.1 + 1, (lettersN all t).2.2)
def lastF (pair s : List UInt8) : UInt8 := s.foldl (fun c x => if pair.contains x = true then x else c) 0
theorem last_snoc (pair s : List UInt8) (x : UInt8) : lastF pair (s ++ [x]) = if pair.contains x = true then x else lastF pair s := by
  unfold lastF; rw [List.foldl_append]; rfl
def isO (k : Int) (s : List UInt8) (x : UInt8) : Bool :=
  if 4 ≤ k ∧ (x = 102 ∨ x = 110) then lastF [102, 110] s == x
  else if x = 114 then s.contains 114 || s.contains 82
  else if x = 82 then false
  else s.contains x
def optionsK (k : Int) (s : List UInt8) (n : Nat) : List UInt8 := ((List.range n).map (fun i => UInt8.ofNat (65 + i))).filter (isO k s)
def optionsF (k : Int) (s : List UInt8) : List UInt8 := optionsK k s 58
theorem options_succ (k : Int) (s : List UInt8) (n : Nat) : optionsK k s (n + 1) = optionsK k s n ++ if isO k s (UInt8.ofNat (65 + n)) = true then [UInt8.ofNat (65 + n)] else [] := by
  unfold optionsK
  rw [List.range_succ, List.map_append, List.filter_append]
  congr 1
  simp only [List.map_cons, List.map_nil, List.filter_cons, List.filter_nil]
theorem options_len (k : Int) (s : List UInt8) (n : Nat) : (optionsK k s n).length ≤ n := by
  unfold optionsK
  refine Nat.le_trans (List.length_filter_le _ _) ?_
  simp
def sMissing : List UInt8 := [109, 105, 115, 115, 105, 110, 103, 32, 99, 111, 109, 109, 97, 110, 100]
def sUnknown : List UInt8 := [58, 32, 117, 110, 107, 110, 111, 119, 110, 32, 99, 111, 109, 109, 97, 110, 100]
def sInvalid : List UInt8 := [58, 32, 105, 110, 118, 97, 108, 105, 100, 32, 111, 112, 116, 105, 111, 110, 32]
def sOperand : List UInt8 := [58, 32, 109, 105, 115, 115, 105, 110, 103, 32, 111, 112, 101, 114, 97, 110, 100]
def sDest : List UInt8 := [58, 32, 109, 105, 115, 115, 105, 110, 103, 32, 100, 101, 115, 116, 105, 110, 97, 116, 105, 111, 110, 32, 111, 112, 101, 114, 97, 110, 100, 32, 97, 102, 116, 101, 114, 32]
def sExtra : List UInt8 := [58, 32, 101, 120, 116, 114, 97, 32, 111, 112, 101, 114, 97, 110, 100, 32]
def noC : CmdV := ⟨0, [], []⟩
def leastF (k : Int) (o : List UInt8) : Nat := if 4 ≤ k ∨ o.contains 84 = true then 2 else 1
/-- What a command's operands come to. -/
def opsF (k : Int) (w o : List UInt8) (ops : List (List UInt8)) : CmdV × List UInt8 :=
  if ops = [] ∧ ¬ (k = 2 ∧ o.contains 102 = true) then (noC, w ++ sOperand)
  else if ops ≠ [] ∧ ops.length < leastF k o then (noC, w ++ sDest ++ quoteB (ops.getLastD []))
  else if 2 < ops.length ∧ o.contains 84 = true then (noC, w ++ sExtra ++ quoteB (ops.getD 2 []))
  else (⟨k, o, ops⟩, [])
def readA : List (List UInt8) → CmdV × List UInt8
  | [] => (noC, sMissing)
  | w :: t =>
    if kindF w = 0 then (noC, quoteB w ++ sUnknown)
    else if (lettersN (allK (kindF w)) t).2.2 ≠ [] then (noC, w ++ sInvalid ++ quoteB (lettersN (allK (kindF w)) t).2.2)
    else opsF (kindF w) w (optionsF (kindF w) (lettersN (allK (kindF w)) t).1) (t.drop (lettersN (allK (kindF w)) t).2.1)

/-! ### The letters, word by word -/
structure LetAt (all : List UInt8) (l : List (List UInt8)) (n : Nat) (s : List UInt8) : Prop where
  le : n ≤ l.length
  eq : lettersN all l = (s ++ (lettersN all (l.drop n)).1, n + (lettersN all (l.drop n)).2.1, (lettersN all (l.drop n)).2.2)
theorem let_start (all : List UInt8) (l : List (List UInt8)) : LetAt all l 0 [] := ⟨Nat.zero_le _, by simp⟩
theorem let_end {all : List UInt8} {l : List (List UInt8)} {s : List UInt8} (h : LetAt all l l.length s) : lettersN all l = (s, l.length, []) := by
  have := h.eq
  rw [List.drop_length] at this
  simpa [lettersN] using this
theorem let_dash {all : List UInt8} {l : List (List UInt8)} {n : Nat} {s : List UInt8} (h : LetAt all l n s) (hn : n < l.length) (e : l[n] = [45, 45]) : lettersN all l = (s, n + 1, []) := by
  have := h.eq
  rw [List.drop_eq_getElem_cons hn, e] at this
  simpa [lettersN] using this
theorem let_word {all : List UInt8} {l : List (List UInt8)} {n : Nat} {s : List UInt8} (h : LetAt all l n s) (hn : n < l.length) (e : ¬ l[n] = [45, 45]) (e2 : optW l[n] = false) : lettersN all l = (s, n, []) := by
  have := h.eq
  rw [List.drop_eq_getElem_cons hn, lettersN, if_neg e, if_pos e2] at this
  simpa using this
theorem let_bad {all : List UInt8} {l : List (List UInt8)} {n : Nat} {s : List UInt8} (h : LetAt all l n s) (hn : n < l.length) (e : ¬ l[n] = [45, 45]) (e2 : optW l[n] = true) (e3 : (scanW all (l[n].drop 1)).2 ≠ []) : lettersN all l = (s ++ (scanW all (l[n].drop 1)).1, n, (scanW all (l[n].drop 1)).2) := by
  have := h.eq
  rw [List.drop_eq_getElem_cons hn, lettersN, if_neg e, if_neg (by rw [e2]; simp), if_pos e3] at this
  simpa using this
theorem let_next {all : List UInt8} {l : List (List UInt8)} {n : Nat} {s : List UInt8} (h : LetAt all l n s) (hn : n < l.length) (e : ¬ l[n] = [45, 45]) (e2 : optW l[n] = true) (e3 : (scanW all (l[n].drop 1)).2 = []) : LetAt all l (n + 1) (s ++ (scanW all (l[n].drop 1)).1) := by
  refine ⟨hn, ?_⟩
  have := h.eq
  rw [List.drop_eq_getElem_cons hn, lettersN, if_neg e, if_neg (by rw [e2]; simp), if_neg (fun c => c e3)] at this
  rw [this]
  simp only [List.append_assoc]
  congr 2
  omega
/-- Within a word: the letters up to i are read. -/
structure ScanAt (all t : List UInt8) (i : Nat) : Prop where
  le : i ≤ t.length
  all' : ∀ c ∈ t.take i, all.contains c = true
theorem scan_start (all t : List UInt8) : ScanAt all t 0 := ⟨Nat.zero_le _, by simp⟩
theorem scan_next {all t : List UInt8} {i : Nat} (h : ScanAt all t i) (hi : i < t.length) (hc : all.contains t[i] = true) : ScanAt all t (i + 1) := by
  refine ⟨hi, fun c hcm => ?_⟩
  rw [List.take_succ_eq_append_getElem hi, List.mem_append] at hcm
  rcases hcm with hcm | hcm
  · exact h.all' c hcm
  · rw [List.mem_singleton.1 hcm]; exact hc
theorem scan_split {all : List UInt8} : ∀ {p q : List UInt8}, (∀ c ∈ p, all.contains c = true) → scanW all (p ++ q) = (p ++ (scanW all q).1, (scanW all q).2)
  | [], _, _ => rfl
  | c :: p, q, h => by rw [List.cons_append, scan_yes _ (h c List.mem_cons_self), scan_split fun d hd => h d (List.mem_cons_of_mem _ hd)]; rfl
theorem scan_end {all t : List UInt8} (h : ScanAt all t t.length) : scanW all t = (t, []) := scan_all fun c hc => h.all' c (by rwa [List.take_length])
theorem scan_stop {all t : List UInt8} {i : Nat} (h : ScanAt all t i) (hi : i < t.length) (hc : all.contains t[i] = false) : scanW all t = (t.take i, [t[i]]) := by
  have := scan_split (q := t.drop i) h.all'
  rw [List.take_append_drop, List.drop_eq_getElem_cons hi, scan_no _ hc, List.append_nil] at this
  exact this

/-! ### Sizes -/
theorem letters_len (all : List UInt8) (m : Nat) : ∀ {l : List (List UInt8)}, (∀ w ∈ l, w.length ≤ m) → (lettersN all l).1.length ≤ l.length * m ∧ (lettersN all l).2.1 ≤ l.length ∧ (lettersN all l).2.2.length ≤ 1
  | [], _ => by simp [lettersN]
  | w :: t, h => by
    have ih := letters_len all m (l := t) fun x hx => h x (List.mem_cons_of_mem _ hx)
    have hw := h w List.mem_cons_self
    have hs : ∀ u : List UInt8, (scanW all u).1.length ≤ u.length ∧ (scanW all u).2.length ≤ 1 := by
      intro u
      induction u with
      | nil => simp [scanW]
      | cons c u ih =>
        rw [scanW]
        split
        · simp; omega
        · simp
    have h1 := hs (w.drop 1)
    rw [List.length_drop] at h1
    have h2 : (t.length + 1) * m = t.length * m + m := Nat.succ_mul _ _
    rw [lettersN]
    split
    · simp
    split
    · simp
    split
    · simp only [List.length_cons]; omega
    · simp only [List.length_cons, List.length_append]; omega

/-! ### In whatever order -/
theorem scan_mem {all : List UInt8} : ∀ {t : List UInt8} {c : UInt8}, c ∈ (scanW all t).1 → all.contains c = true
  | [], _, h => (nomatch h)
  | d :: t, c, h => by
    rw [scanW] at h
    split at h
    · rename_i hd
      rcases List.mem_cons.1 h with rfl | h
      · exact hd
      · exact scan_mem h
    · cases h
theorem letters_dash (all : List UInt8) (ops : List (List UInt8)) : lettersN all ([45, 45] :: ops) = ([], 1, []) := by rw [lettersN, if_pos rfl]
/-- Letters in one word. -/
theorem letters_one {all ls : List UInt8} (h : ∀ c ∈ ls, all.contains c = true) (hd : all.contains 45 = false) (hne : ls ≠ []) (ops : List (List UInt8)) : lettersN all ((45 :: ls) :: [45, 45] :: ops) = (ls, 2, []) := by
  have hw : ¬ (45 :: ls = [45, 45]) := by
    intro e
    have : ls = [45] := (List.cons.inj e).2
    subst this
    rw [h 45 (by simp)] at hd
    cases hd
  have ho : optW (45 :: ls) = true := by
    cases ls with
    | nil => exact absurd rfl hne
    | cons => simp [optW]
  rw [lettersN, if_neg hw, if_neg (by rw [ho]; simp), if_neg (by rw [List.drop_one, List.tail_cons, scan_all h]; simp), List.drop_one, List.tail_cons, scan_all h, letters_dash]
  simp
/-- Letters in words of their own. -/
theorem letters_each {all : List UInt8} (hd : all.contains 45 = false) (ops : List (List UInt8)) : ∀ {ls : List UInt8}, (∀ c ∈ ls, all.contains c = true) → lettersN all (ls.map (fun c => [45, c]) ++ [45, 45] :: ops) = (ls, ls.length + 1, [])
  | [], _ => letters_dash all ops
  | c :: ls, h => by
    have hc := h c List.mem_cons_self
    have hw : ¬ ([45, c] = [45, 45]) := by
      intro e
      have : c = 45 := by simpa using e
      rw [this, hd] at hc; cases hc
    have ih := letters_each hd ops (ls := ls) fun d hd => h d (List.mem_cons_of_mem _ hd)
    have hs : scanW all [c] = ([c], []) := scan_all fun d hd => by rw [List.mem_singleton.1 hd]; exact hc
    rw [List.map_cons, List.cons_append, lettersN, if_neg hw, if_neg (by simp [optW]), if_neg (by rw [List.drop_one, List.tail_cons, hs]; simp), List.drop_one, List.tail_cons, hs, ih]
    simp
/-- What options letters come to lies in which letters stand, where of no pair two do. -/
theorem options_same {k : Int} {s t : List UInt8} (h : ∀ c, c ∈ s ↔ c ∈ t) (hp : 4 ≤ k → ¬ (110 : UInt8) ∈ s) : optionsF k s = optionsF k t := by
  have hc : ∀ c : UInt8, s.contains c = t.contains c := fun c => by
    rw [Bool.eq_iff_iff, List.contains_iff_mem, List.contains_iff_mem]; exact h c
  have hl : ∀ {u : List UInt8}, ¬ (110 : UInt8) ∈ u → lastF [102, 110] u = if (102 : UInt8) ∈ u then 102 else 0 := by
    intro u
    have key : ∀ (u : List UInt8) (z : UInt8), ¬ (110 : UInt8) ∈ u → u.foldl (fun c x => if ([102, 110] : List UInt8).contains x = true then x else c) z = if (102 : UInt8) ∈ u then 102 else z := by
      intro u
      induction u with
      | nil => intro z _; simp
      | cons x u ih =>
        intro z hn
        have hx : x ≠ 110 := fun e => hn (e ▸ List.mem_cons_self)
        rw [List.foldl_cons, ih _ fun hm => hn (List.mem_cons_of_mem _ hm)]
        by_cases h2 : x = 102
        · subst h2; simp
        · have : ([102, 110] : List UInt8).contains x = false := by simp [h2, hx]
          rw [this]
          simp [Ne.symm h2]
    exact key u 0
  have hiso : ∀ x, isO k s x = isO k t x := by
    intro x
    unfold isO
    split
    · rename_i c
      have hs := hp c.1
      have ht : ¬ (110 : UInt8) ∈ t := fun m => hs ((h _).2 m)
      rw [hl hs, hl ht]
      have := h 102
      by_cases m : (102 : UInt8) ∈ s
      · rw [if_pos m, if_pos (this.1 m)]
      · rw [if_neg m, if_neg fun m2 => m (this.2 m2)]
    · simp only [hc]
  unfold optionsF optionsK
  exact congrArg (fun f => List.filter f _) (funext hiso)
end Go.Proofs.YteeahhklbgnepaaDoor

/- What commands tell: the phrases, as lists (printed by tools/say18.py). No program's function. -/
set_option linter.unusedVariables false
set_option linter.unusedSimpArgs false
namespace Go.Proofs.YteeahhklbgnepaaDoor

def sayL (what : Int) (a b e : List UInt8) : List UInt8 :=
  if what = 1 then [99, 97, 110, 110, 111, 116, 32, 99, 114, 101, 97, 116, 101, 32, 100, 105, 114, 101, 99, 116, 111, 114, 121, 32] ++ a ++ [58, 32] ++ e
  else if what = 2 then [99, 97, 110, 110, 111, 116, 32, 114, 101, 109, 111, 118, 101, 32] ++ a ++ [58, 32] ++ e
  else if what = 3 then [114, 101, 102, 117, 115, 105, 110, 103, 32, 116, 111, 32, 114, 101, 109, 111, 118, 101, 32, 34, 46, 34, 32, 111, 114, 32, 34, 46, 46, 34, 32, 100, 105, 114, 101, 99, 116, 111, 114, 121, 58, 32, 115, 107, 105, 112, 112, 105, 110, 103, 32] ++ a
  else if what = 4 then [105, 116, 32, 105, 115, 32, 100, 97, 110, 103, 101, 114, 111, 117, 115, 32, 116, 111, 32, 111, 112, 101, 114, 97, 116, 101, 32, 114, 101, 99, 117, 114, 115, 105, 118, 101, 108, 121, 32, 111, 110, 32] ++ a
  else if what = 5 then [102, 97, 105, 108, 101, 100, 32, 116, 111, 32, 97, 99, 99, 101, 115, 115, 32] ++ a ++ [58, 32] ++ e
  else if what = 6 then a ++ [58, 32, 104, 97, 114, 100, 32, 108, 105, 110, 107, 32, 110, 111, 116, 32, 97, 108, 108, 111, 119, 101, 100, 32, 102, 111, 114, 32, 100, 105, 114, 101, 99, 116, 111, 114, 121]
  else if what = 7 then [102, 97, 105, 108, 101, 100, 32, 116, 111, 32, 99, 114, 101, 97, 116, 101, 32, 104, 97, 114, 100, 32, 108, 105, 110, 107, 32] ++ b ++ [58, 32] ++ e
  else if what = 8 then [102, 97, 105, 108, 101, 100, 32, 116, 111, 32, 99, 114, 101, 97, 116, 101, 32, 115, 121, 109, 98, 111, 108, 105, 99, 32, 108, 105, 110, 107, 32] ++ b ++ [58, 32] ++ e
  else if what = 9 then a ++ [32, 97, 110, 100, 32] ++ b ++ [32, 97, 114, 101, 32, 116, 104, 101, 32, 115, 97, 109, 101, 32, 102, 105, 108, 101]
  else if what = 10 then [116, 97, 114, 103, 101, 116, 32] ++ a ++ [32, 105, 115, 32, 110, 111, 116, 32, 97, 32, 100, 105, 114, 101, 99, 116, 111, 114, 121]
  else if what = 11 then [99, 97, 110, 110, 111, 116, 32, 115, 116, 97, 116, 32] ++ a ++ [58, 32] ++ e
  else if what = 12 then [99, 97, 110, 110, 111, 116, 32, 111, 118, 101, 114, 119, 114, 105, 116, 101, 32, 110, 111, 110, 45, 100, 105, 114, 101, 99, 116, 111, 114, 121, 32] ++ b ++ [32, 119, 105, 116, 104, 32, 100, 105, 114, 101, 99, 116, 111, 114, 121, 32] ++ a
  else if what = 13 then [99, 97, 110, 110, 111, 116, 32, 111, 118, 101, 114, 119, 114, 105, 116, 101, 32, 100, 105, 114, 101, 99, 116, 111, 114, 121, 32] ++ b ++ [32, 119, 105, 116, 104, 32, 110, 111, 110, 45, 100, 105, 114, 101, 99, 116, 111, 114, 121, 32] ++ a
  else if what = 14 then [99, 97, 110, 110, 111, 116, 32, 109, 111, 118, 101, 32] ++ a ++ [32, 116, 111, 32, 97, 32, 115, 117, 98, 100, 105, 114, 101, 99, 116, 111, 114, 121, 32, 111, 102, 32, 105, 116, 115, 101, 108, 102, 44, 32] ++ b
  else if what = 15 then [99, 97, 110, 110, 111, 116, 32, 109, 111, 118, 101, 32] ++ a ++ [32, 116, 111, 32] ++ b ++ [58, 32] ++ e
  else if what = 16 then [45, 114, 32, 110, 111, 116, 32, 115, 112, 101, 99, 105, 102, 105, 101, 100, 59, 32, 111, 109, 105, 116, 116, 105, 110, 103, 32, 100, 105, 114, 101, 99, 116, 111, 114, 121, 32] ++ a
  else if what = 17 then [99, 97, 110, 110, 111, 116, 32, 99, 114, 101, 97, 116, 101, 32, 114, 101, 103, 117, 108, 97, 114, 32, 102, 105, 108, 101, 32] ++ b ++ [58, 32] ++ e
  else if what = 18 then [99, 97, 110, 110, 111, 116, 32, 99, 114, 101, 97, 116, 101, 32, 115, 121, 109, 98, 111, 108, 105, 99, 32, 108, 105, 110, 107, 32] ++ b ++ [58, 32] ++ e
  else if what = 19 then [99, 97, 110, 110, 111, 116, 32, 99, 111, 112, 121, 32, 97, 32, 100, 105, 114, 101, 99, 116, 111, 114, 121, 44, 32] ++ a ++ [44, 32, 105, 110, 116, 111, 32, 105, 116, 115, 101, 108, 102, 44, 32] ++ b
  else if what = 20 then [110, 111, 116, 32, 119, 114, 105, 116, 105, 110, 103, 32, 116, 104, 114, 111, 117, 103, 104, 32, 100, 97, 110, 103, 108, 105, 110, 103, 32, 115, 121, 109, 108, 105, 110, 107, 32] ++ b
  else if what = 21 then [101, 114, 114, 111, 114, 32, 119, 114, 105, 116, 105, 110, 103, 32] ++ b ++ [58, 32] ++ e
  else if what = 22 then [99, 97, 110, 110, 111, 116, 32, 99, 114, 101, 97, 116, 101, 32, 100, 105, 114, 101, 99, 116, 111, 114, 121, 32] ++ b ++ [58, 32] ++ e
  else []
theorem say_1 (a b e : List UInt8) : sayL 1 a b e = [99, 97, 110, 110, 111, 116, 32, 99, 114, 101, 97, 116, 101, 32, 100, 105, 114, 101, 99, 116, 111, 114, 121, 32] ++ a ++ [58, 32] ++ e := rfl
theorem say_2 (a b e : List UInt8) : sayL 2 a b e = [99, 97, 110, 110, 111, 116, 32, 114, 101, 109, 111, 118, 101, 32] ++ a ++ [58, 32] ++ e := rfl
theorem say_3 (a b e : List UInt8) : sayL 3 a b e = [114, 101, 102, 117, 115, 105, 110, 103, 32, 116, 111, 32, 114, 101, 109, 111, 118, 101, 32, 34, 46, 34, 32, 111, 114, 32, 34, 46, 46, 34, 32, 100, 105, 114, 101, 99, 116, 111, 114, 121, 58, 32, 115, 107, 105, 112, 112, 105, 110, 103, 32] ++ a := rfl
theorem say_4 (a b e : List UInt8) : sayL 4 a b e = [105, 116, 32, 105, 115, 32, 100, 97, 110, 103, 101, 114, 111, 117, 115, 32, 116, 111, 32, 111, 112, 101, 114, 97, 116, 101, 32, 114, 101, 99, 117, 114, 115, 105, 118, 101, 108, 121, 32, 111, 110, 32] ++ a := rfl
theorem say_5 (a b e : List UInt8) : sayL 5 a b e = [102, 97, 105, 108, 101, 100, 32, 116, 111, 32, 97, 99, 99, 101, 115, 115, 32] ++ a ++ [58, 32] ++ e := rfl
theorem say_6 (a b e : List UInt8) : sayL 6 a b e = a ++ [58, 32, 104, 97, 114, 100, 32, 108, 105, 110, 107, 32, 110, 111, 116, 32, 97, 108, 108, 111, 119, 101, 100, 32, 102, 111, 114, 32, 100, 105, 114, 101, 99, 116, 111, 114, 121] := rfl
theorem say_7 (a b e : List UInt8) : sayL 7 a b e = [102, 97, 105, 108, 101, 100, 32, 116, 111, 32, 99, 114, 101, 97, 116, 101, 32, 104, 97, 114, 100, 32, 108, 105, 110, 107, 32] ++ b ++ [58, 32] ++ e := rfl
theorem say_8 (a b e : List UInt8) : sayL 8 a b e = [102, 97, 105, 108, 101, 100, 32, 116, 111, 32, 99, 114, 101, 97, 116, 101, 32, 115, 121, 109, 98, 111, 108, 105, 99, 32, 108, 105, 110, 107, 32] ++ b ++ [58, 32] ++ e := rfl
theorem say_9 (a b e : List UInt8) : sayL 9 a b e = a ++ [32, 97, 110, 100, 32] ++ b ++ [32, 97, 114, 101, 32, 116, 104, 101, 32, 115, 97, 109, 101, 32, 102, 105, 108, 101] := rfl
theorem say_10 (a b e : List UInt8) : sayL 10 a b e = [116, 97, 114, 103, 101, 116, 32] ++ a ++ [32, 105, 115, 32, 110, 111, 116, 32, 97, 32, 100, 105, 114, 101, 99, 116, 111, 114, 121] := rfl
theorem say_11 (a b e : List UInt8) : sayL 11 a b e = [99, 97, 110, 110, 111, 116, 32, 115, 116, 97, 116, 32] ++ a ++ [58, 32] ++ e := rfl
theorem say_12 (a b e : List UInt8) : sayL 12 a b e = [99, 97, 110, 110, 111, 116, 32, 111, 118, 101, 114, 119, 114, 105, 116, 101, 32, 110, 111, 110, 45, 100, 105, 114, 101, 99, 116, 111, 114, 121, 32] ++ b ++ [32, 119, 105, 116, 104, 32, 100, 105, 114, 101, 99, 116, 111, 114, 121, 32] ++ a := rfl
theorem say_13 (a b e : List UInt8) : sayL 13 a b e = [99, 97, 110, 110, 111, 116, 32, 111, 118, 101, 114, 119, 114, 105, 116, 101, 32, 100, 105, 114, 101, 99, 116, 111, 114, 121, 32] ++ b ++ [32, 119, 105, 116, 104, 32, 110, 111, 110, 45, 100, 105, 114, 101, 99, 116, 111, 114, 121, 32] ++ a := rfl
theorem say_14 (a b e : List UInt8) : sayL 14 a b e = [99, 97, 110, 110, 111, 116, 32, 109, 111, 118, 101, 32] ++ a ++ [32, 116, 111, 32, 97, 32, 115, 117, 98, 100, 105, 114, 101, 99, 116, 111, 114, 121, 32, 111, 102, 32, 105, 116, 115, 101, 108, 102, 44, 32] ++ b := rfl
theorem say_15 (a b e : List UInt8) : sayL 15 a b e = [99, 97, 110, 110, 111, 116, 32, 109, 111, 118, 101, 32] ++ a ++ [32, 116, 111, 32] ++ b ++ [58, 32] ++ e := rfl
theorem say_16 (a b e : List UInt8) : sayL 16 a b e = [45, 114, 32, 110, 111, 116, 32, 115, 112, 101, 99, 105, 102, 105, 101, 100, 59, 32, 111, 109, 105, 116, 116, 105, 110, 103, 32, 100, 105, 114, 101, 99, 116, 111, 114, 121, 32] ++ a := rfl
theorem say_17 (a b e : List UInt8) : sayL 17 a b e = [99, 97, 110, 110, 111, 116, 32, 99, 114, 101, 97, 116, 101, 32, 114, 101, 103, 117, 108, 97, 114, 32, 102, 105, 108, 101, 32] ++ b ++ [58, 32] ++ e := rfl
theorem say_18 (a b e : List UInt8) : sayL 18 a b e = [99, 97, 110, 110, 111, 116, 32, 99, 114, 101, 97, 116, 101, 32, 115, 121, 109, 98, 111, 108, 105, 99, 32, 108, 105, 110, 107, 32] ++ b ++ [58, 32] ++ e := rfl
theorem say_19 (a b e : List UInt8) : sayL 19 a b e = [99, 97, 110, 110, 111, 116, 32, 99, 111, 112, 121, 32, 97, 32, 100, 105, 114, 101, 99, 116, 111, 114, 121, 44, 32] ++ a ++ [44, 32, 105, 110, 116, 111, 32, 105, 116, 115, 101, 108, 102, 44, 32] ++ b := rfl
theorem say_20 (a b e : List UInt8) : sayL 20 a b e = [110, 111, 116, 32, 119, 114, 105, 116, 105, 110, 103, 32, 116, 104, 114, 111, 117, 103, 104, 32, 100, 97, 110, 103, 108, 105, 110, 103, 32, 115, 121, 109, 108, 105, 110, 107, 32] ++ b := rfl
theorem say_21 (a b e : List UInt8) : sayL 21 a b e = [101, 114, 114, 111, 114, 32, 119, 114, 105, 116, 105, 110, 103, 32] ++ b ++ [58, 32] ++ e := rfl
theorem say_22 (a b e : List UInt8) : sayL 22 a b e = [99, 97, 110, 110, 111, 116, 32, 99, 114, 101, 97, 116, 101, 32, 100, 105, 114, 101, 99, 116, 111, 114, 121, 32] ++ b ++ [58, 32] ++ e := rfl
theorem say_none {what : Int} (h : ¬ (1 ≤ what ∧ what ≤ 22)) (a b e : List UInt8) : sayL what a b e = [] := by
  unfold sayL
  repeat rw [if_neg (by omega)]
theorem say_cases {what : Int} (h : 1 ≤ what ∧ what ≤ 22) : what = 1 ∨ what = 2 ∨ what = 3 ∨ what = 4 ∨ what = 5 ∨ what = 6 ∨ what = 7 ∨ what = 8 ∨ what = 9 ∨ what = 10 ∨ what = 11 ∨ what = 12 ∨ what = 13 ∨ what = 14 ∨ what = 15 ∨ what = 16 ∨ what = 17 ∨ what = 18 ∨ what = 19 ∨ what = 20 ∨ what = 21 ∨ what = 22 := by omega
end Go.Proofs.YteeahhklbgnepaaDoor

/- What the laws of stage 18 ask of phrases (printed by tools/say18.py). No program's function. -/
set_option linter.unusedVariables false
set_option linter.unusedSimpArgs false
namespace Go.Proofs.YteeahhklbgnepaaDoor

def tellL (kind what : Int) (a b m : List UInt8) : List UInt8 := if nameK kind = [] ∨ sayL what (quoteB a) (quoteB b) m = [] then [] else nameK kind ++ [58, 32] ++ sayL what (quoteB a) (quoteB b) m
def phraseL (what : Int) : List UInt8 := sayL what [65] [66] [69]
theorem name_ne {k : Int} (h1 : 1 ≤ k) (h2 : k ≤ 5) : nameK k ≠ [] := by
  obtain rfl | rfl | rfl | rfl | rfl : k = 1 ∨ k = 2 ∨ k = 3 ∨ k = 4 ∨ k = 5 := by omega
  all_goals decide
theorem name_no {k : Int} (h : ¬ (1 ≤ k ∧ k ≤ 5)) : nameK k = [] := by
  unfold nameK
  repeat rw [if_neg (by omega)]
theorem quote_ne (a : List UInt8) : quoteB a ≠ [] := by unfold quoteB; simp
theorem say_ne {what : Int} (h : 1 ≤ what ∧ what ≤ 22) (a b m : List UInt8) : sayL what (quoteB a) (quoteB b) m ≠ [] := by
  rcases say_cases h with rfl | rfl | rfl | rfl | rfl | rfl | rfl | rfl | rfl | rfl | rfl | rfl | rfl | rfl | rfl | rfl | rfl | rfl | rfl | rfl | rfl | rfl
  all_goals (unfold quoteB; simp [sayL])
theorem tell_there (kind what : Int) (a b m : List UInt8) : (tellL kind what a b m ≠ []) ↔ (1 ≤ kind ∧ kind ≤ 5 ∧ 1 ≤ what ∧ what ≤ 22) := by
  unfold tellL
  by_cases hk : 1 ≤ kind ∧ kind ≤ 5
  · by_cases hw : 1 ≤ what ∧ what ≤ 22
    · rw [if_neg (fun c => c.elim (name_ne hk.1 hk.2) (say_ne hw a b m))]
      simp [hk, hw]
    · rw [if_pos (.inr (say_none hw _ _ _))]
      simp
      omega
  · rw [if_pos (.inl (name_no hk))]
    simp
    omega
theorem tell_of {kind what : Int} (hk : 1 ≤ kind ∧ kind ≤ 5) (hw : 1 ≤ what ∧ what ≤ 22) (a b m : List UInt8) : tellL kind what a b m = nameK kind ++ [58, 32] ++ sayL what (quoteB a) (quoteB b) m := by
  unfold tellL
  rw [if_neg (fun c => c.elim (name_ne hk.1 hk.2) (say_ne hw a b m))]

/-! ### Which operands a phrase names -/
def aloneB (p : List UInt8) (i : Nat) : Bool := (decide (i = 0) || p.getD (i - 1) 0 == 32) && (decide (i + 1 = p.length) || decide (p.getD (i + 1) 0 < 65))
def hasL (x : UInt8) (p : List UInt8) (n : Nat) : Bool := (List.range n).any fun i => aloneB p i && p.getD i 0 == x
theorem has_succ (x : UInt8) (p : List UInt8) (n : Nat) : hasL x p (n + 1) = (hasL x p n || (aloneB p n && p.getD n 0 == x)) := by
  unfold hasL; rw [List.range_succ, List.any_append]; simp
def hasA (what : Int) : Bool := what == 1 || what == 2 || what == 3 || what == 4 || what == 5 || what == 6 || what == 9 || what == 10 || what == 11 || what == 12 || what == 13 || what == 14 || what == 15 || what == 16 || what == 19
def hasB2 (what : Int) : Bool := what == 7 || what == 8 || what == 9 || what == 12 || what == 13 || what == 14 || what == 15 || what == 17 || what == 18 || what == 19 || what == 20 || what == 21 || what == 22
theorem has_a {what : Int} (h : 1 ≤ what ∧ what ≤ 22) : hasL 65 (phraseL what) (phraseL what).length = hasA what := by
  rcases say_cases h with rfl | rfl | rfl | rfl | rfl | rfl | rfl | rfl | rfl | rfl | rfl | rfl | rfl | rfl | rfl | rfl | rfl | rfl | rfl | rfl | rfl | rfl
  all_goals decide +kernel
theorem has_b {what : Int} (h : 1 ≤ what ∧ what ≤ 22) : hasL 66 (phraseL what) (phraseL what).length = hasB2 what := by
  rcases say_cases h with rfl | rfl | rfl | rfl | rfl | rfl | rfl | rfl | rfl | rfl | rfl | rfl | rfl | rfl | rfl | rfl | rfl | rfl | rfl | rfl | rfl | rfl
  all_goals decide +kernel
theorem quote_iff (a c : List UInt8) : quoteB a = quoteB c ↔ a = c := ⟨quoteB_inj, fun e => by rw [e]⟩
theorem say_a {what : Int} (h : 1 ≤ what ∧ what ≤ 22) (a b c m : List UInt8) : sayL what (quoteB a) (quoteB b) m = sayL what (quoteB c) (quoteB b) m ↔ (hasA what = false ∨ a = c) := by
  rcases say_cases h with rfl | rfl | rfl | rfl | rfl | rfl | rfl | rfl | rfl | rfl | rfl | rfl | rfl | rfl | rfl | rfl | rfl | rfl | rfl | rfl | rfl | rfl
  all_goals simp [sayL, hasA, quote_iff]
theorem say_b {what : Int} (h : 1 ≤ what ∧ what ≤ 22) (a b c m : List UInt8) : sayL what (quoteB a) (quoteB b) m = sayL what (quoteB a) (quoteB c) m ↔ (hasB2 what = false ∨ b = c) := by
  rcases say_cases h with rfl | rfl | rfl | rfl | rfl | rfl | rfl | rfl | rfl | rfl | rfl | rfl | rfl | rfl | rfl | rfl | rfl | rfl | rfl | rfl | rfl | rfl
  all_goals simp [sayL, hasB2, quote_iff]

/-! ### Signs and blanks alone -/
def lineC (c : UInt8) : Bool := decide (32 ≤ c.toNat) && decide (c.toNat ≤ 126)
def signL (l : List UInt8) : Bool := l.all lineC
theorem hexD_line_all : ∀ n : Fin 16, lineC (hexD n.val) = true := by decide
theorem formB_line (b : UInt8) : ∀ c ∈ formB b, lineC c = true := by
  intro c hc
  cases hb : bareB b
  · rw [formB_hex hb] at hc
    have h1 := hexD_line_all ⟨b.toNat / 16, by have := b.toNat_lt; omega⟩
    have h2 := hexD_line_all ⟨b.toNat % 16, by omega⟩
    simp at hc
    rcases hc with rfl | rfl | rfl | rfl
    · decide
    · decide
    · exact h1
    · exact h2
  · rw [formB_bare hb] at hc
    simp at hc
    subst hc
    simp only [bareB, Bool.and_eq_true] at hb
    simp only [lineC, Bool.and_eq_true]
    exact hb.1.1
theorem quoteB_line (l : List UInt8) : ∀ c ∈ quoteB l, lineC c = true := by
  intro c hc
  simp only [quoteB, List.mem_cons, List.mem_append, List.not_mem_nil, or_false] at hc
  rcases hc with rfl | h | rfl
  · decide
  · obtain ⟨b, _, hb⟩ := List.mem_flatMap.1 h
    exact formB_line b c hb
  · decide
theorem quote_line (l : List UInt8) : signL (quoteB l) = true := List.all_eq_true.2 fun c hc => quoteB_line l c hc
theorem line_append {a b : List UInt8} : signL (a ++ b) = (signL a && signL b) := List.all_append
theorem name_line (k : Int) : signL (nameK k) = true := by
  unfold nameK
  repeat' split
  all_goals decide
theorem say_line (what : Int) {a b m : List UInt8} (ha : signL a = true) (hb : signL b = true) (hm : signL m = true) : signL (sayL what a b m) = true := by
  by_cases h : 1 ≤ what ∧ what ≤ 22
  · rcases say_cases h with rfl | rfl | rfl | rfl | rfl | rfl | rfl | rfl | rfl | rfl | rfl | rfl | rfl | rfl | rfl | rfl | rfl | rfl | rfl | rfl | rfl | rfl
    all_goals simp only [sayL, line_append, ha, hb, hm, Bool.and_true, Bool.true_and, Int.reduceEq, if_true, if_false, reduceIte]
    all_goals decide
  · rw [say_none h]; rfl
theorem tell_line (kind what : Int) (a b : List UInt8) {m : List UInt8} (ha : signL (quoteB a) = true) (hb : signL (quoteB b) = true) (hm : signL m = true) : signL (tellL kind what a b m) = true := by
  unfold tellL
  split
  · rfl
  · rw [line_append, line_append, name_line, say_line what ha hb hm]; decide
end Go.Proofs.YteeahhklbgnepaaDoor

/- Small laws used by all walks of this seat: endings, bytes in rows of the call's own, texts made of them. -/
set_option linter.unusedVariables false
set_option linter.unusedSimpArgs false
namespace Go.Proofs.YteeahhklbgnepaaDoor
open Go.RowKit

theorem ret_bool {a b : Bool} (h : a = b) : Ending.returned (.bool a) = .returned (.bool b) := by rw [h]
theorem ret_str {a b : List UInt8} (h : a = b) : Ending.returned (.string ⟨a.toArray⟩) = .returned (.string ⟨b.toArray⟩) := by rw [h]
theorem str_len {s : ByteArray} {n : Nat} (h : s.size ≤ n) : s.data.toList.length ≤ n := by rw [Array.length_toList]; exact h
theorem str_eta (s : ByteArray) : s = ⟨s.data.toList.toArray⟩ := by simp

@[go_sem] theorem str_at (l : List UInt8) (k : Nat) (h : k < (ByteArray.mk l.toArray).size) : (ByteArray.mk l.toArray)[k] = l[k]'(by have h' := h; simp [ByteArray.size] at h'; exact h') := rfl

theorem bits_and15_all : ∀ n : Fin 256, bits BinOp.and IntKind.u8 ((n.val : Nat) : Int) 15 = ((n.val : Nat) : Int) % 16 := by decide +kernel
theorem bits_and15 (n : Nat) (h : n < 256) : bits BinOp.and IntKind.u8 (n : Int) 15 = (n : Int) % 16 := bits_and15_all ⟨n, h⟩

@[go_sem] theorem take_drop_all {α : Type} (l : List α) (k : Nat) : (l.drop k).take (l.length - k) = l.drop k := List.take_of_length_le (by simp)

/-- Bytes as cells. -/
def bytesV (l : List UInt8) : List Value := l.map fun c => .int .u8 (c.toNat : Int)
theorem bytesV_append (a b : List UInt8) : bytesV (a ++ b) = bytesV a ++ bytesV b := by simp [bytesV]
theorem bytesV_one (l : List UInt8) : ∀ u ∈ bytesV l, u.oneCell' = true := by
  intro u hu; obtain ⟨_, _, rfl⟩ := List.mem_map.1 hu; rfl
theorem bytesV_len (l : List UInt8) : (bytesV l).length = l.length := by simp [bytesV]

/-- The cells of a new block of bytes. -/
theorem cells_block (w : World) (C : Array Value) (t : TypeId) : ∀ (j : Nat) (u : Value), C.toList[j]? = some u → (w.alloc (.cells C t)).cell? ((⟨w.heap.size, 0, none⟩ : Addr).add j) = some u := by
  intro j u h
  have := World.cell?_alloc_mark w C t (0, 0) j
  rw [Addr.add_lit, Nat.zero_add, this]; simpa using h

/-- A text made of an owned row of bytes. -/
theorem run_own_string {P : Program} {w : World} {base : Nat} {e : TypeId} {v : Value} {n : Nat} {l : List UInt8} (src dst : TypeId) (hs : P.underlying src = some (.slice e)) (he : P.underlying e = some (.int .u8)) (hd : P.underlying dst = some .string)
    (h : w.ownsRow base e 1 v n (bytesV l)) : (convert src dst v).run P w = .ok (.string ⟨l.toArray⟩) w := by
  have hlen := h.1
  rw [bytesV_len] at hlen
  rcases h.2 with ⟨rfl, rfl⟩ | ⟨g, cap, cur, rfl, hg, hh, hnc, hcm, hsz, htk⟩
  · have : l = [] := List.eq_nil_of_length_eq_zero (by simpa using hlen)
    subst this
    rw [run_convert_bytes_string w src dst e none 0 0 hs he hd]
    rfl
  · have hn : n = l.length := by omega
    subst hn
    refine run_convert_bytes_back w src dst e ⟨g, 0, none⟩ cap l hs he hd ?_
    intro j hj
    have hc := World.ownsRow.cells h (g := g) rfl j (.int .u8 (l[j].toNat : Int)) (by simp [bytesV, List.getElem?_eq_getElem hj])
    exact hc

theorem wpList_own_string {P : Program} {w : World} {ops : Array Oper} {rest : List Oper} {o : Oper} {a : Act} {Q : Exit → Act → World → Prop} (hgd : o.guard = none) (x : Operand) (src dst : TypeId)
    (ho : o.op = .convert src dst x) {base : Nat} {e : TypeId} {v : Value} {n : Nat} {l : List UInt8} (hs : P.underlying src = some (.slice e)) (he : P.underlying e = some (.int .u8)) (hd : P.underlying dst = some .string)
    (hx : a.eval x = v) (h : w.ownsRow base e 1 v n (bytesV l)) (hK : wpList P ops Q rest (a.put o.dst (.string ⟨l.toArray⟩)) w) : wpList P ops Q (o :: rest) a w := by
  refine wpList_plain hgd fun K hK' => ?_
  have hrun := run_own_string (P := P) src dst hs he hd h
  unfold Oper.wp
  simp [execOp, ho, hx, hrun, Result.andThen]
  exact hK' _ _ hK

theorem own_below {w w' : World} {base : Nat} {e : TypeId} {size : Nat} {v : Value} {n : Nat} {xs : List Value} (h : w.ownsRow base e size v n xs) (hg : w.grownBy w' v.ownBlock) (hb : base ≤ w.heap.size) : Below base w w' :=
  (Below.refl base w).grown hg hb fun k hk => (h.lt k hk).1

/-- What is owned stays owned behind whatever turns nothing that was there. -/
theorem own_keep {w w' : World} {base : Nat} {e : TypeId} {size : Nat} {v : Value} {n : Nat} {xs : List Value} (h : w.ownsRow base e size v n xs) (hb : Below w.heap.size w w') : w'.ownsRow base e size v n xs := by
  obtain ⟨h1, h2⟩ := h
  refine ⟨h1, ?_⟩
  rcases h2 with h2 | ⟨g, cap, cur, hv, hg, hh, r⟩
  · exact Or.inl h2
  · have hlt : g < w.heap.size := by
      rcases Nat.lt_or_ge g w.heap.size with h | h
      · exact h
      · simp [Array.getElem?_eq_none h] at hh
    exact Or.inr ⟨g, cap, cur, hv, hg, by rw [hb.block g hlt]; exact hh, r⟩

/-- 'append(s, a, b, ..)': what is appended lies in a block that was just made for it. -/
theorem wpList_append_new {P : Program} {w : World} {ops : Array Oper} {rest : List Oper} {o : Oper} {a : Act} {Q : Exit → Act → World → Prop} (hgd : o.guard = none) (s x : Operand) (t e : TypeId)
    (ho : o.op = .call { callee := .builtin .append, args := #[s, x], argTypes := #[t, t] })
    {i : TypeInfo} {z : Value} {size bytes : Nat} (ht : P.underlying t = some (.slice e)) (hi : P.info? e = some i) (hz : i.zero = some z)
    (hsize : i.size = size) (hby : i.bytes = bytes) (hzs : z.cells.size = size) (hsz : 0 < size) (hbs : bytes ≤ 128)
    (base : Nat) {v : Value} {n : Nat} {xs : List Value} (C : Array Value) (m : Nat) (hs : a.eval s = v) (hx : a.eval x = .slice (some ⟨w.heap.size, 0, none⟩) m m) (hown : w.ownsRow base e size v n xs)
    (hm : C.size = m * size) (h1 : ∀ u ∈ C.toList, u.oneCell' = true) (hb : n + m ≤ 1099511627776) (hbase : base ≤ w.heap.size)
    (hK : ∀ v' w', w'.ownsRow base e size v' (n + m) (xs ++ C.toList) → Below base w w' → wpList P ops Q rest (a.put o.dst v') w') :
    wpList P ops Q (o :: rest) a (w.alloc (.cells C e)) := by
  refine wpList_append_own _ hgd s x t ho base e i z size bytes ht hi hz hsize hby hzs hsz v n xs hs (hown.alloc _) ⟨w.heap.size, 0, none⟩ m m C.toList hx (by simpa using hm) (cells_block w C e) h1 (by unfold maxLen; omega) ?_ (by simp; omega) ?_
  · calc (n + m) * bytes ≤ 1099511627776 * 128 := Nat.mul_le_mul hb hbs
      _ ≤ 140737488355328 := by decide
  · intro v' w' h2 h3 _
    exact hK v' w' h2 (((Below.refl base w).alloc hbase _).trans (own_below (hown.alloc _) h3 (by simp; omega)))

/-- The same, and every block but the row's own stays. -/
theorem wpList_append_near {P : Program} {w : World} {ops : Array Oper} {rest : List Oper} {o : Oper} {a : Act} {Q : Exit → Act → World → Prop} (hgd : o.guard = none) (s x : Operand) (t e : TypeId)
    (ho : o.op = .call { callee := .builtin .append, args := #[s, x], argTypes := #[t, t] })
    {i : TypeInfo} {z : Value} {size bytes : Nat} (ht : P.underlying t = some (.slice e)) (hi : P.info? e = some i) (hz : i.zero = some z)
    (hsize : i.size = size) (hby : i.bytes = bytes) (hzs : z.cells.size = size) (hsz : 0 < size) (hbs : bytes ≤ 128)
    (base : Nat) {v : Value} {n : Nat} {xs : List Value} (C : Array Value) (m : Nat) (hs : a.eval s = v) (hx : a.eval x = .slice (some ⟨w.heap.size, 0, none⟩) m m) (hown : w.ownsRow base e size v n xs)
    (hm : C.size = m * size) (h1 : ∀ u ∈ C.toList, u.oneCell' = true) (hb : n + m ≤ 1099511627776) (hbase : base ≤ w.heap.size)
    (hK : ∀ v' w', w'.ownsRow base e size v' (n + m) (xs ++ C.toList) → (w.alloc (.cells C e)).grownBy w' v.ownBlock → wpList P ops Q rest (a.put o.dst v') w') :
    wpList P ops Q (o :: rest) a (w.alloc (.cells C e)) := by
  refine wpList_append_own _ hgd s x t ho base e i z size bytes ht hi hz hsize hby hzs hsz v n xs hs (hown.alloc _) ⟨w.heap.size, 0, none⟩ m m C.toList hx (by simpa using hm) (cells_block w C e) h1 (by unfold maxLen; omega) ?_ (by simp; omega) ?_
  · calc (n + m) * bytes ≤ 1099511627776 * 128 := Nat.mul_le_mul hb hbs
      _ ≤ 140737488355328 := by decide
  · intro v' w' h2 h3 _
    exact hK v' w' h2 h3

/-- The same as one step of a region that draws its order. -/
theorem step_append_own {P : Program} {ops : Array Oper} {o : Oper} {a : Act} {w : World} {K : Act → World → Prop} {Q : Exit → Act → World → Prop} {E : Prop} (hgd : o.guard = none) (s x : Operand) (t e : TypeId)
    (ho : o.op = .call { callee := .builtin .append, args := #[s, x], argTypes := #[t, t] })
    {i : TypeInfo} {z : Value} {size bytes : Nat} (ht : P.underlying t = some (.slice e)) (hi : P.info? e = some i) (hz : i.zero = some z)
    (hsize : i.size = size) (hby : i.bytes = bytes) (hzs : z.cells.size = size) (hsz : 0 < size) (hbs : bytes ≤ 128)
    (base : Nat) {v : Value} {n : Nat} {xs : List Value} (ad : Addr) (m : Nat) (news : List Value) (hs : a.eval s = v) (hx : a.eval x = .slice (some ad) m m) (hown : w.ownsRow base e size v n xs)
    (hm : news.length = m * size) (hnews : ∀ j u, news[j]? = some u → w.cell? (ad.add j) = some u) (h1 : ∀ u ∈ news, u.oneCell' = true) (hb : n + m ≤ 1099511627776) (hbase : base ≤ w.heap.size)
    (hK : ∀ v' w', w'.ownsRow base e size v' (n + m) (xs ++ news) → Below base w w' → K (a.put o.dst v') w') :
    if Region.wanted o (yielded ops a.tmps) = true then Oper.wp P o a w K Q else E := by
  rw [if_pos (by simp [Region.wanted, hgd])]
  refine wp_append_own w s x t ho base e i z size bytes ht hi hz hsize hby hzs hsz v n xs hs hown ad m m news hx hm hnews h1 (by unfold maxLen; omega) ?_ hbase ?_
  · calc (n + m) * bytes ≤ 1099511627776 * 128 := Nat.mul_le_mul hb hbs
      _ ≤ 140737488355328 := by decide
  · intro v' w' h2 h3 _
    exact hK v' w' h2 (own_below hown h3 hbase)

/-- A text made of bytes that lie in a block just made for them. -/
theorem run_new_string {P : Program} (w : World) (src dst : TypeId) {e : TypeId} (hs : P.underlying src = some (.slice e)) (he : P.underlying e = some (.int .u8)) (hd : P.underlying dst = some .string)
    (l : List UInt8) (C : Array Value) (hC : C = (bytesV l).toArray) (n : Nat) (hn : n = l.length) :
    (convert src dst (.slice (some ⟨w.heap.size, 0, none⟩) n n)).run P (w.alloc (.cells C e)) = .ok (.string ⟨l.toArray⟩) (w.alloc (.cells C e)) := by
  subst hC hn
  exact run_convert_bytes_back (P := P) (w.alloc (.cells (bytesV l).toArray e)) src dst e ⟨w.heap.size, 0, none⟩ l.length l hs he hd (by
    intro j hj
    exact cells_block w (bytesV l).toArray e j _ (by simp [bytesV, List.getElem?_eq_getElem hj]))
end Go.Proofs.YteeahhklbgnepaaDoor

/- Walks: the document's In, Name, last. -/
set_option linter.unusedVariables false
set_option linter.unusedSimpArgs false
namespace Go.Proofs.YteeahhklbgnepaaDoor
open Go.RowKit

/-- Is a byte among others? -/
def inB (s : List UInt8) (c : UInt8) : Bool := s.contains c
theorem below_new (w : World) (o : Obj) : Below w.heap.size w (w.alloc o) := (Below.refl _ w).alloc (Nat.le_refl _) _
theorem contains_yes {s : List UInt8} {c : UInt8} {k : Nat} (h : k < s.length) (e : s[k] = c) : inB s c = true := by
  unfold inB
  rw [List.contains_iff_mem, ← e]; exact List.getElem_mem h
theorem contains_no {s : List UInt8} {c : UInt8} (h : ∀ j (hj : j < s.length), j < s.length → s[j] ≠ c) : inB s c = false := by
  unfold inB
  rw [Bool.eq_false_iff]
  intro hc
  obtain ⟨j, hj, e⟩ := List.getElem_of_mem (List.contains_iff_mem.1 hc)
  exact h j hj hj e

theorem refName_no (k : Int) (w : World) (h : ¬ (1 ≤ k ∧ k ≤ 5)) :
    Calls Tryd.prog 14 #[.int .i64 k] w fun e w' => e = .returned (.string ⟨#[]⟩) ∧ Below w.heap.size w w' := by
  by_cases h1 : k < 1
  · go_enter Tryd.func14, Tryd.ntmps14
    go_wp2
    go_ret
    exact ⟨rfl, Below.refl _ _⟩
  · have h2 : 5 < k := by omega
    go_enter Tryd.func14, Tryd.ntmps14
    go_wp2
    go_ret
    exact ⟨rfl, Below.refl _ _⟩
theorem refName_any (k : Int) (w : World) :
    Calls Tryd.prog 14 #[.int .i64 k] w fun e w' => e = .returned (.string ⟨(nameK k).toArray⟩) ∧ Below w.heap.size w w' := by
  by_cases h : 1 ≤ k ∧ k ≤ 5
  · obtain rfl | rfl | rfl | rfl | rfl : k = 1 ∨ k = 2 ∨ k = 3 ∨ k = 4 ∨ k = 5 := by omega
    all_goals clear h
    all_goals go_enter Tryd.func14, Tryd.ntmps14
    all_goals go_wp2
    all_goals go_ret
    all_goals exact ⟨rfl, below_new _ _⟩
  · have := refName_no k w h
    have e : nameK k = [] := by
      unfold nameK
      rw [if_neg (by omega), if_neg (by omega), if_neg (by omega), if_neg (by omega), if_neg (by omega)]
    rw [e]
    exact this

theorem lastF_len (pair : List UInt8) (s : List UInt8) (k : Nat) (h : k < s.length) : lastF pair (s.take (k + 1)) = if inB pair s[k] = true then s[k] else lastF pair (s.take k) := by
  rw [List.take_succ_eq_append_getElem h, last_snoc]; rfl
end Go.Proofs.YteeahhklbgnepaaDoor

/- Walks: the document's forms, and plain words. -/
set_option linter.unusedVariables false
set_option linter.unusedSimpArgs false
namespace Go.Proofs.YteeahhklbgnepaaDoor
open Go.RowKit

set_option maxHeartbeats 800000 in
set_option maxRecDepth 100000 in
theorem Byte_any (c : UInt8) (w : World) :
    Calls Tryd.prog 23 #[.int .u8 (c.toNat : Int)] w fun e w' => e = .returned (.string ⟨(formB c).toArray⟩) ∧ Below w.heap.size w w' := by
  have h0 : (0 : Int) ≤ c.toNat := by omega
  have hc := c.toNat_lt
  have q0 : (0 : Int) ≤ (c.toNat : Int) / 16 := by omega
  have q1 : (c.toNat : Int) / 16 < 16 := by omega
  have r0 : (0 : Int) ≤ (c.toNat : Int) % 16 := by omega
  have r1 : (c.toNat : Int) % 16 < 16 := by omega
  have e1 : IntKind.u8.wrap ((c.toNat : Int) / 16) = (c.toNat : Int) / 16 := IntWalk.u8_in _ (by omega)
  have e2 : ((c.toNat : Int).tmod 16) = (c.toNat : Int) % 16 := IntWalk.rem_in _ _ h0
  by_cases b1 : (32 : Int) ≤ c.toNat
  · by_cases b2 : (c.toNat : Int) ≤ 126
    · cases b3 : ((c.toNat : Int) != 34)
      · (have hb : bareB c = false := by (rw [Bool.eq_false_iff]; simp [bareB]; simp at b3; omega)); have hf := Lib.hid (formB_hex hb); have g1 := Lib.hid (hex_atN (c.toNat / 16) (by simp [hexDigits]; omega)); have g2 := Lib.hid (hex_atN (c.toNat % 16) (by simp [hexDigits]; omega)); go_enter Tryd.func23, Tryd.ntmps23; go_wp2; go_still_tail 6, (by kernel_rfl); change wpList _ _ _ _ _ w.drew; generalize hwd : w.drew = w2; have hB : Below w.heap.size w w2 := (by rw [← hwd]; exact (Below.refl _ _).drew); clear hwd; have hcv := run_new_string (P := Tryd.prog) w2 38 9 Tryd.underlying38 Tryd.underlying5 Tryd.underlying9 [92, 120, hexDigits[c.toNat / 16]'(by simp [hexDigits]; omega), hexDigits[c.toNat % 16]'(by simp [hexDigits]; omega)] #[.int .u8 92, .int .u8 120, .int .u8 ((hexDigits[c.toNat / 16]'(by simp [hexDigits]; omega)).toNat : Int), .int .u8 ((hexDigits[c.toNat % 16]'(by simp [hexDigits]; omega)).toNat : Int)] rfl 4 rfl; unfold hexDigits at hcv; go_wp2; clear hcv; go_ret; exact ⟨by (rw [hf.out, ← g1.out, ← g2.out]; rfl), hB.alloc hB.size _⟩
      · cases b4 : ((c.toNat : Int) != 92)
        · (have hb : bareB c = false := by (rw [Bool.eq_false_iff]; simp [bareB]; simp at b4; omega)); have hf := Lib.hid (formB_hex hb); have g1 := Lib.hid (hex_atN (c.toNat / 16) (by simp [hexDigits]; omega)); have g2 := Lib.hid (hex_atN (c.toNat % 16) (by simp [hexDigits]; omega)); go_enter Tryd.func23, Tryd.ntmps23; go_wp2; go_still_tail 6, (by kernel_rfl); change wpList _ _ _ _ _ w.drew; generalize hwd : w.drew = w2; have hB : Below w.heap.size w w2 := (by rw [← hwd]; exact (Below.refl _ _).drew); clear hwd; have hcv := run_new_string (P := Tryd.prog) w2 38 9 Tryd.underlying38 Tryd.underlying5 Tryd.underlying9 [92, 120, hexDigits[c.toNat / 16]'(by simp [hexDigits]; omega), hexDigits[c.toNat % 16]'(by simp [hexDigits]; omega)] #[.int .u8 92, .int .u8 120, .int .u8 ((hexDigits[c.toNat / 16]'(by simp [hexDigits]; omega)).toNat : Int), .int .u8 ((hexDigits[c.toNat % 16]'(by simp [hexDigits]; omega)).toNat : Int)] rfl 4 rfl; unfold hexDigits at hcv; go_wp2; clear hcv; go_ret; exact ⟨by (rw [hf.out, ← g1.out, ← g2.out]; rfl), hB.alloc hB.size _⟩
        · have hb : bareB c = true := by simp [bareB]; simp at b3 b4; omega
          have hf := Lib.hid (formB_bare hb)
          go_enter Tryd.func23, Tryd.ntmps23
          have hcv := run_new_string (P := Tryd.prog) w 38 9 Tryd.underlying38 Tryd.underlying5 Tryd.underlying9 [c] #[.int .u8 (c.toNat : Int)] rfl 1 rfl
          go_wp2
          go_ret
          exact ⟨by (rw [hf.out]; rfl), (Below.refl _ _).alloc (Nat.le_refl _) _⟩
    · (have hb : bareB c = false := by (rw [Bool.eq_false_iff]; simp [bareB]; simp at b2; omega)); have hf := Lib.hid (formB_hex hb); have g1 := Lib.hid (hex_atN (c.toNat / 16) (by simp [hexDigits]; omega)); have g2 := Lib.hid (hex_atN (c.toNat % 16) (by simp [hexDigits]; omega)); go_enter Tryd.func23, Tryd.ntmps23; go_wp2; go_still_tail 6, (by kernel_rfl); change wpList _ _ _ _ _ w.drew; generalize hwd : w.drew = w2; have hB : Below w.heap.size w w2 := (by rw [← hwd]; exact (Below.refl _ _).drew); clear hwd; have hcv := run_new_string (P := Tryd.prog) w2 38 9 Tryd.underlying38 Tryd.underlying5 Tryd.underlying9 [92, 120, hexDigits[c.toNat / 16]'(by simp [hexDigits]; omega), hexDigits[c.toNat % 16]'(by simp [hexDigits]; omega)] #[.int .u8 92, .int .u8 120, .int .u8 ((hexDigits[c.toNat / 16]'(by simp [hexDigits]; omega)).toNat : Int), .int .u8 ((hexDigits[c.toNat % 16]'(by simp [hexDigits]; omega)).toNat : Int)] rfl 4 rfl; unfold hexDigits at hcv; go_wp2; clear hcv; go_ret; exact ⟨by (rw [hf.out, ← g1.out, ← g2.out]; rfl), hB.alloc hB.size _⟩
  · (have hb : bareB c = false := by (rw [Bool.eq_false_iff]; simp [bareB]; simp at b1; omega)); have hf := Lib.hid (formB_hex hb); have g1 := Lib.hid (hex_atN (c.toNat / 16) (by simp [hexDigits]; omega)); have g2 := Lib.hid (hex_atN (c.toNat % 16) (by simp [hexDigits]; omega)); go_enter Tryd.func23, Tryd.ntmps23; go_wp2; go_still_tail 6, (by kernel_rfl); change wpList _ _ _ _ _ w.drew; generalize hwd : w.drew = w2; have hB : Below w.heap.size w w2 := (by rw [← hwd]; exact (Below.refl _ _).drew); clear hwd; have hcv := run_new_string (P := Tryd.prog) w2 38 9 Tryd.underlying38 Tryd.underlying5 Tryd.underlying9 [92, 120, hexDigits[c.toNat / 16]'(by simp [hexDigits]; omega), hexDigits[c.toNat % 16]'(by simp [hexDigits]; omega)] #[.int .u8 92, .int .u8 120, .int .u8 ((hexDigits[c.toNat / 16]'(by simp [hexDigits]; omega)).toNat : Int), .int .u8 ((hexDigits[c.toNat % 16]'(by simp [hexDigits]; omega)).toNat : Int)] rfl 4 rfl; unfold hexDigits at hcv; go_wp2; clear hcv; go_ret; exact ⟨by (rw [hf.out, ← g1.out, ← g2.out]; rfl), hB.alloc hB.size _⟩

end Go.Proofs.YteeahhklbgnepaaDoor

/- The document's Quote, alone (WalkF01 asks for Unquote's walks). -/
set_option linter.unusedVariables false
set_option linter.unusedSimpArgs false
namespace Go.Proofs.YteeahhklbgnepaaDoor
open Go.RowKit

attribute [go_sem] ByteArray.mk_append_mk

theorem refQuoteK_any (l : List UInt8) (w : World) (hl : l.length ≤ 1000000) :
    Calls Tryd.prog 16 #[.string ⟨l.toArray⟩] w fun e w' => e = .returned (.string ⟨(quoteB l).toArray⟩) ∧ Below w.heap.size w w' := by
  go_enter Tryd.func16, Tryd.ntmps16
  go_wp2
  go_loopw [3, 4] (fun s i wr => ∃ k : Nat, k ≤ l.length ∧ i = .int .i64 k ∧ s = .string ⟨(34 :: formsB (l.take k)).toArray⟩ ∧ Below w.heap.size w wr) (fun _ i _ => l.length - (intOf i).toNat)
  case atStart => exact ⟨0, Nat.zero_le _, rfl, rfl, Below.refl _ _⟩
  case round =>
    obtain ⟨k, hk, rfl, rfl, hb⟩ := hrel
    have hfl := formsB_take_len l k
    by_cases hlt : k < l.length
    · have hsn := Lib.hid (formsB_snoc l k hlt)
      have h4 := formB_len l[k]
      go_wp2_with fail
      refine (Byte_any _ _).mono ?_
      rintro e w2 ⟨rfl, hB⟩
      go_wp2
      go_roundw
      case rel => exact ⟨k + 1, by omega, by go_num, by rw [hsn.out], hb.trans (hB.mono hb.size)⟩
      case measure => simp [intOf]; omega
    · obtain rfl : k = l.length := by omega
      rw [List.take_length] at hfl ⊢
      go_wp2
      go_ret
      exact ⟨rfl, hb⟩
end Go.Proofs.YteeahhklbgnepaaDoor

/- Plain functions on lists of bytes for layer 2: the document's messages; lines of words. No walk, no program. -/
set_option linter.unusedVariables false
set_option linter.unusedSimpArgs false
namespace Go.Proofs.YteeahhklbgnepaaDoor

/-- The messages, by their numbers. -/
def msgs : List (List UInt8) := [
  [83, 117, 99, 99, 101, 115, 115],
  [78, 111, 32, 115, 117, 99, 104, 32, 102, 105, 108, 101, 32, 111, 114, 32, 100, 105, 114, 101, 99, 116, 111, 114, 121],
  [70, 105, 108, 101, 32, 101, 120, 105, 115, 116, 115],
  [78, 111, 116, 32, 97, 32, 100, 105, 114, 101, 99, 116, 111, 114, 121],
  [73, 115, 32, 97, 32, 100, 105, 114, 101, 99, 116, 111, 114, 121],
  [68, 105, 114, 101, 99, 116, 111, 114, 121, 32, 110, 111, 116, 32, 101, 109, 112, 116, 121],
  [84, 111, 111, 32, 109, 97, 110, 121, 32, 108, 101, 118, 101, 108, 115, 32, 111, 102, 32, 115, 121, 109, 98, 111, 108, 105, 99, 32, 108, 105, 110, 107, 115],
  [70, 105, 108, 101, 32, 110, 97, 109, 101, 32, 116, 111, 111, 32, 108, 111, 110, 103],
  [78, 111, 32, 115, 112, 97, 99, 101, 32, 108, 101, 102, 116, 32, 111, 110, 32, 100, 101, 118, 105, 99, 101],
  [73, 110, 118, 97, 108, 105, 100, 32, 97, 114, 103, 117, 109, 101, 110, 116],
  [68, 101, 118, 105, 99, 101, 32, 111, 114, 32, 114, 101, 115, 111, 117, 114, 99, 101, 32, 98, 117, 115, 121],
  [79, 112, 101, 114, 97, 116, 105, 111, 110, 32, 110, 111, 116, 32, 112, 101, 114, 109, 105, 116, 116, 101, 100],
  [77, 97, 108, 102, 111, 114, 109, 101, 100, 32, 116, 101, 120, 116],
  [78, 111, 116, 32, 105, 110, 32, 116, 104, 101, 32, 115, 116, 97, 115, 104]]
/-- What is told of a number that is none. -/
def unknownM : List UInt8 := [85, 110, 107, 110, 111, 119, 110, 32, 101, 114, 114, 111, 114]
theorem msgs_len : msgs.length = 14 := rfl
/-- The message of this number. -/
def msgAt (k : Nat) : List UInt8 := msgs.getD k []
theorem msgAt_get {k : Nat} (h : k < msgs.length) : msgAt k = msgs[k] := by simp [msgAt, List.getD, List.getElem?_eq_getElem h]
theorem msgAt_small (k : Nat) (h : k < 14) : (msgAt k).length ≤ 40 := (by decide +kernel : ∀ k : Fin 14, (msgAt k.val).length ≤ 40) ⟨k, h⟩

/-- The message of whatever number. -/
def msgOf (e : Int) : List UInt8 := if 0 ≤ e ∧ e ≤ 13 then msgAt e.toNat else unknownM
theorem msgOf_no {e : Int} (h : e < 0 ∨ 13 < e) : msgOf e = unknownM := by unfold msgOf; rw [if_neg (by omega)]
theorem msgOf_nat (k : Nat) (h : k < 14) : msgOf (k : Int) = msgAt k := by unfold msgOf; rw [if_pos (by omega)]; rfl
theorem msgOf_ne (e : Int) : msgOf e ≠ [] := by
  unfold msgOf
  split
  · rename_i h
    have hk : e.toNat < 14 := by omega
    exact (by decide +kernel : ∀ k : Fin 14, msgAt k.val ≠ []) ⟨e.toNat, hk⟩
  · decide
theorem msgOf_small (e : Int) : (msgOf e).length ≤ 40 := by
  unfold msgOf
  split
  · exact msgAt_small _ (by omega)
  · decide

/-- The number of the message that a text is: the first one from 'k' on. -/
def findFrom (s : List UInt8) : Nat → List (List UInt8) → Option Nat
  | _, [] => none
  | k, m :: r => if m = s then some k else findFrom s (k + 1) r
def findM (s : List UInt8) : Option Nat := findFrom s 0 msgs
theorem findFrom_at (s : List UInt8) : ∀ (l : List (List UInt8)) (k j : Nat) (h : j < l.length), (∀ i (hi : i < j), l[i]'(by omega) ≠ s) → l[j] = s → findFrom s k l = some (k + j)
  | m :: r, k, 0, _, _, he => by simp at he; simp [findFrom, he]
  | m :: r, k, j + 1, h, hn, he => by
    have h0 := hn 0 (by omega)
    simp at h0 he
    unfold findFrom
    rw [if_neg h0, findFrom_at s r (k + 1) j (by simpa using h) (fun i hi => by have := hn (i + 1) (by omega); simpa using this) he]
    congr 1; omega
theorem findFrom_none (s : List UInt8) : ∀ (l : List (List UInt8)) (k : Nat), (∀ i (hi : i < l.length), l[i] ≠ s) → findFrom s k l = none
  | [], _, _ => rfl
  | m :: r, k, hn => by
    have h0 := hn 0 (by simp)
    simp at h0
    unfold findFrom
    rw [if_neg h0]
    exact findFrom_none s r (k + 1) (fun i hi => by have := hn (i + 1) (by simpa using hi); simpa using this)
theorem findM_at {s : List UInt8} {j : Nat} (h : j < 14) (hn : ∀ i, i < j → msgAt i ≠ s) (he : msgAt j = s) : findM s = some j := by
  have hl : j < msgs.length := h
  unfold findM
  rw [findFrom_at s msgs 0 j hl (fun i hi => by rw [← msgAt_get (Nat.lt_trans hi hl)]; exact hn i hi) (by rw [← msgAt_get hl]; exact he), Nat.zero_add]
theorem findM_none {s : List UInt8} (hn : ∀ i, i < 14 → msgAt i ≠ s) : findM s = none :=
  findFrom_none s msgs 0 (fun i hi => by rw [← msgAt_get hi]; exact hn i hi)
/-- Unlike numbers have unlike messages. -/
theorem msgs_apart (i j : Nat) (hi : i < 14) (hj : j < 14) (h : msgAt i = msgAt j) : i = j := by
  have := (by decide +kernel : ∀ (i j : Fin 14), msgAt i.val = msgAt j.val → i = j) ⟨i, hi⟩ ⟨j, hj⟩ h
  simpa using this
theorem findM_msg (k : Nat) (h : k < 14) : findM (msgAt k) = some k :=
  findM_at h (fun i hi e => by have := msgs_apart i k (by omega) h e; omega) rfl
theorem findM_unknown : findM unknownM = none := by decide +kernel
theorem findM_some {s : List UInt8} {k : Nat} (h : findM s = some k) : k < 14 ∧ msgAt k = s := by
  by_cases hn : ∀ i, i < 14 → msgAt i ≠ s
  · rw [findM_none hn] at h; cases h
  · simp only [Classical.not_forall, not_imp, Classical.not_not] at hn
    obtain ⟨i, hi, e⟩ := hn
    have : findM s = some i := by rw [← e]; exact findM_msg i hi
    rw [h] at this
    cases this
    exact ⟨hi, e⟩

/-- A line of words. -/
def lineB : List (List UInt8) → List UInt8
  | [] => []
  | [x] => x
  | x :: y :: t => x ++ 58 :: 32 :: lineB (y :: t)
theorem lineB_snoc : ∀ (l : List (List UInt8)) (x : List UInt8), l ≠ [] → lineB (l ++ [x]) = lineB l ++ [58, 32] ++ x
  | [], _, h => absurd rfl h
  | [y], x, _ => by simp [lineB]
  | y :: z :: t, x, _ => by
    have := lineB_snoc (z :: t) x (by simp)
    simp only [List.cons_append] at this
    simp only [List.cons_append, lineB, this, List.append_assoc]
theorem lineB_take (l : List (List UInt8)) (k : Nat) (h : k < l.length) : lineB (l.take (k + 1)) = if k = 0 then l[k] else lineB (l.take k) ++ [58, 32] ++ l[k] := by
  rw [List.take_succ_eq_append_getElem h]
  split
  · rename_i h0; subst h0; rfl
  · rename_i h0
    refine lineB_snoc _ _ ?_
    intro e
    have := congrArg List.length e
    simp at this
    rcases this with h1 | h1
    · exact h0 h1
    · rw [h1] at h; exact absurd h (by simp)
theorem lineB_take_le (l : List (List UInt8)) : ∀ (d k : Nat), k + d = l.length → (lineB (l.take k)).length ≤ (lineB l).length
  | 0, k, h => by rw [List.take_of_length_le (by omega)]; exact Nat.le_refl _
  | d + 1, k, h => by
    refine Nat.le_trans ?_ (lineB_take_le l d (k + 1) (by omega))
    rw [lineB_take l k (by omega)]
    split
    · rename_i h0; subst h0; simp [lineB]
    · simp
theorem lineB_len : ∀ (l : List (List UInt8)) (m : Nat), (∀ x ∈ l, x.length ≤ m) → (lineB l).length ≤ l.length * (m + 2)
  | [], _, _ => by simp [lineB]
  | [x], m, h => by have := h x (by simp); simp [lineB]; omega
  | x :: y :: t, m, h => by
    have h1 := h x (by simp)
    have h2 := lineB_len (y :: t) m (fun z hz => h z (by simp at hz ⊢; exact Or.inr hz))
    simp only [lineB, List.length_append, List.length_cons] at h2 ⊢
    have : (t.length + 1 + 1) * (m + 2) = (t.length + 1) * (m + 2) + (m + 2) := Nat.succ_mul _ _
    omega
end Go.Proofs.YteeahhklbgnepaaDoor

/-
  DERIVED: THE SHELF's CONTRACTS AT THIS DUMP, IN PLAIN WORDS (tools/lay-plain.mjs out of 'TrydShelf.lean', which tools/lay-shelf.mjs wrote): THE SAME DECLARATIONS UNDER THE SAME NAMES: 'import', 'namespace', 'open', 'def', 'theorem' AND NOTHING ELSE: no command of the shelf's: FOR A HAND-IN. Each laying: the table of numbers ('.._ren') and one theorem, a field a fact of the dump's own or the kernel's comparison; each contract: ONE APPLICATION.
-/
namespace Go.Proofs
open Go.Shelf
def Tryd.lays195_ren : Go.Shelf.Ren := ⟨fun | 195 => 30 | n => n, fun | 9 => 9 | 3 => 3 | 0 => 0 | 4 => 4 | n => n, fun | n => n⟩
theorem Tryd.lays195 : Go.Proofs.Lays.n195 Tryd.prog Tryd.lays195_ren := {
  mixed := by kernel_rfl
  f195 := Tryd.func30.trans (congrArg some (by kernel_rfl))
  t0 := Tryd.underlying0
  a0 := Tryd.isAgg0
  z0 := Tryd.sizeOf0
  v0 := Tryd.zeroValue0
  t3 := Tryd.underlying3
  a3 := Tryd.isAgg3
  z3 := Tryd.sizeOf3
  v3 := Tryd.zeroValue3
  t4 := Tryd.underlying4
  a4 := Tryd.isAgg4
  z4 := Tryd.sizeOf4
  v4 := Tryd.zeroValue4
  t9 := Tryd.underlying9
  a9 := Tryd.isAgg9
  z9 := Tryd.sizeOf9
  v9 := Tryd.zeroValue9 }
open Go.RowKit in
/-- unicode/utf8.RuneCountInString: "RuneCountInString is like RuneCount but its input is a string." ("RuneCount returns the number of runes in p. Erroneous and short encodings are treated as single runes of width 1 byte."): EVERY STRING, valid UTF-8 or not: 'Lib.runeCount s' (plain Lean over the model's own 'Utf8.decode'; 'Lib.runeCount_le': at most len(s); 'Lib.runeCount_ascii': on ASCII: len(s)). THE ONE CONDITION: len(s) below 2^63 - 1 (the counter does not wrap): the form's reach pays it. THE WORLD BEHIND THE CALL: ONE BLOCK MORE: the model's iterator over s, at its end: all else as it was. (LAID: no walk: one application.) -/
theorem Tryd.utf8_RuneCountInString (s : ByteArray) (w : World) (hs : s.size < 9223372036854775807) :
    Calls Tryd.prog 30 #[.string s] w fun e w' => e = .returned (.int .i64 (Lib.runeCount s)) ∧ ∃ pos, w' = w.iter s pos := Any.utf8_RuneCountInString Tryd.lays195 s w hs
def Tryd.laysM316_ren : Go.Shelf.Ren := ⟨fun | 316 => 24 | n => n, fun | 9 => 9 | 3 => 3 | 4 => 4 | 37 => 38 | 0 => 0 | 127 => 47 | 5 => 5 | n => n, fun | n => n⟩
theorem Tryd.laysM316 : Go.Proofs.LaysM.n316 Tryd.prog Tryd.laysM316_ren := {
  mixed := by kernel_rfl
  f316 := Tryd.func24.trans (congrArg some (by kernel_rfl))
  t0 := Tryd.underlying0
  a0 := Tryd.isAgg0
  z0 := Tryd.sizeOf0
  v0 := Tryd.zeroValue0
  t3 := Tryd.underlying3
  a3 := Tryd.isAgg3
  z3 := Tryd.sizeOf3
  v3 := Tryd.zeroValue3
  t4 := Tryd.underlying4
  a4 := Tryd.isAgg4
  z4 := Tryd.sizeOf4
  v4 := Tryd.zeroValue4
  t9 := Tryd.underlying9
  a9 := Tryd.isAgg9
  z9 := Tryd.sizeOf9
  v9 := Tryd.zeroValue9
  t37 := Tryd.underlying38
  a37 := Tryd.isAgg38
  z37 := Tryd.sizeOf38
  v37 := Tryd.zeroValue38
  t127 := Tryd.underlying47
  a127 := Tryd.isAgg47
  z127 := Tryd.sizeOf47
  v127 := Tryd.zeroValue47
  t5 := Tryd.underlying5
  a5 := Tryd.isAgg5
  z5 := Tryd.sizeOf5
  v5 := Tryd.zeroValue5
  i0 := by kernel_rfl
  i3 := by kernel_rfl
  i4 := by kernel_rfl
  i5 := by kernel_rfl
  i9 := by kernel_rfl
  i37 := by kernel_rfl
  i127 := by kernel_rfl }
open Go.RowKit in
/-- internal/stringslite.Clone (what strings.Clone calls): "Clone returns a fresh copy of s.": THE SAME BYTES. Of what was there nothing has turned (a new row is laid, and frozen, where s is not empty). (LAID: no walk: one application.) -/
theorem Tryd.stringslite_Clone (s : ByteArray) (w : World) (hlim : s.size ≤ 281474976710656) :
    Calls Tryd.prog 24 #[.string s] w fun e w' => e = .returned (.string s) ∧ Below w.heap.size w w' := Any.stringslite_Clone Tryd.laysM316 s w hlim
def Tryd.lays217_ren : Go.Shelf.Ren := ⟨fun | 217 => 35 | 266 => 39 | n => n, fun | 9 => 9 | 5 => 5 | 3 => 3 | n => n, fun | n => n⟩
theorem Tryd.lays217 : Go.Proofs.Lays.n217 Tryd.prog Tryd.lays217_ren := {
  mixed := by kernel_rfl
  f217 := Tryd.func35.trans (congrArg some (by kernel_rfl))
  f266 := Tryd.func39.trans (congrArg some (by kernel_rfl))
  t3 := Tryd.underlying3
  a3 := Tryd.isAgg3
  z3 := Tryd.sizeOf3
  v3 := Tryd.zeroValue3
  t5 := Tryd.underlying5
  a5 := Tryd.isAgg5
  z5 := Tryd.sizeOf5
  v5 := Tryd.zeroValue5
  t9 := Tryd.underlying9
  a9 := Tryd.isAgg9
  z9 := Tryd.sizeOf9
  v9 := Tryd.zeroValue9 }
open Go.RowKit Go.Lib in
/-- internal/stringslite.IndexByte (what strings.IndexByte calls): IT RETURNS 'Lib.indexByte s c'; the world is as it was. (LAID: no walk: one application.) -/
theorem Tryd.stringslite_IndexByte (s : ByteArray) (c : Int) (w : World) :
    Calls Tryd.prog 35 #[.string s, .int .u8 c] w fun e w' => e = .returned (.int .i64 (Lib.indexByte s.data.toList c.toNat.toUInt8)) ∧ w' = w := Any.stringslite_IndexByte Tryd.lays217 s c w
def Tryd.lays224_ren : Go.Shelf.Ren := ⟨fun | 224 => 37 | n => n, fun | 3 => 3 | n => n, fun | n => n⟩
theorem Tryd.lays224 : Go.Proofs.Lays.n224 Tryd.prog Tryd.lays224_ren := {
  mixed := by kernel_rfl
  f224 := Tryd.func37.trans (congrArg some (by kernel_rfl))
  t3 := Tryd.underlying3
  a3 := Tryd.isAgg3
  z3 := Tryd.sizeOf3
  v3 := Tryd.zeroValue3 }
open Go.RowKit Go.Lib in
/-- internal/bytealg.Cutover: "Cutover reports the number of failures of IndexByte we should tolerate before switching over to Index. n is the number of bytes processed so far.": on amd64: (n + 16) / 8. (LAID: no walk: one application.) -/
theorem Tryd.bytealg_Cutover (n : Int) (h0 : 0 ≤ n) (h1 : n < 4611686018427387904) (w : World) :
    Calls Tryd.prog 37 #[.int .i64 n] w fun e w' => e = .returned (.int .i64 ((n + 16) / 8)) ∧ w' = w := Any.bytealg_Cutover Tryd.lays224 n h0 h1 w
def Tryd.lays314_ren : Go.Shelf.Ren := ⟨fun | 314 => 40 | n => n, fun | 9 => 9 | 51 => 59 | 3 => 3 | 4 => 4 | 5 => 5 | 46 => 45 | n => n, fun | n => n⟩
theorem Tryd.lays314 : Go.Proofs.Lays.n314 Tryd.prog Tryd.lays314_ren := {
  mixed := by kernel_rfl
  f314 := Tryd.func40.trans (congrArg some (by kernel_rfl))
  t3 := Tryd.underlying3
  a3 := Tryd.isAgg3
  z3 := Tryd.sizeOf3
  v3 := Tryd.zeroValue3
  t4 := Tryd.underlying4
  a4 := Tryd.isAgg4
  z4 := Tryd.sizeOf4
  v4 := Tryd.zeroValue4
  t5 := Tryd.underlying5
  a5 := Tryd.isAgg5
  z5 := Tryd.sizeOf5
  v5 := Tryd.zeroValue5
  t9 := Tryd.underlying9
  a9 := Tryd.isAgg9
  z9 := Tryd.sizeOf9
  v9 := Tryd.zeroValue9
  t46 := Tryd.underlying45
  a46 := Tryd.isAgg45
  z46 := Tryd.sizeOf45
  v46 := Tryd.zeroValue45
  t51 := Tryd.underlying59
  a51 := Tryd.isAgg59
  z51 := Tryd.sizeOf59
  v51 := Tryd.zeroValue59 }
open Go.RowKit Go.Lib in
/-- hashStr: "returns the hash and the appropriate multiplicative factor for use in Rabin-Karp algorithm": THE HASH OF ALL OF sep, AND 16777619 ^ len(sep), both in uint32. (LAID: no walk: one application.) -/
theorem Tryd.bytealg_hashStr (sep : ByteArray) (hs : sep.size < 4294967281) (w : World) :
    Calls Tryd.prog 40 #[.string sep] w fun e w' => e = .returned (.tuple #[.int .u32 (RK.H sep.data.toList % 4294967296), .int .u32 (16777619 ^ sep.size % 4294967296)]) ∧ w' = w := Any.bytealg_hashStr Tryd.lays314 sep hs w
def Tryd.lays267_ren : Go.Shelf.Ren := ⟨fun | 267 => 38 | 314 => 40 | n => n, fun | 9 => 9 | 3 => 3 | 146 => 60 | 51 => 59 | 4 => 4 | 5 => 5 | 46 => 45 | n => n, fun | n => n⟩
theorem Tryd.lays267 : Go.Proofs.Lays.n267 Tryd.prog Tryd.lays267_ren := {
  mixed := by kernel_rfl
  f267 := Tryd.func38.trans (congrArg some (by kernel_rfl))
  f314 := Tryd.func40.trans (congrArg some (by kernel_rfl))
  t3 := Tryd.underlying3
  a3 := Tryd.isAgg3
  z3 := Tryd.sizeOf3
  v3 := Tryd.zeroValue3
  t4 := Tryd.underlying4
  a4 := Tryd.isAgg4
  z4 := Tryd.sizeOf4
  v4 := Tryd.zeroValue4
  t5 := Tryd.underlying5
  a5 := Tryd.isAgg5
  z5 := Tryd.sizeOf5
  v5 := Tryd.zeroValue5
  t9 := Tryd.underlying9
  a9 := Tryd.isAgg9
  z9 := Tryd.sizeOf9
  v9 := Tryd.zeroValue9
  t46 := Tryd.underlying45
  a46 := Tryd.isAgg45
  z46 := Tryd.sizeOf45
  v46 := Tryd.zeroValue45
  t51 := Tryd.underlying59
  a51 := Tryd.isAgg59
  z51 := Tryd.sizeOf59
  v51 := Tryd.zeroValue59
  t146 := Tryd.underlying60
  a146 := Tryd.isAgg60
  z146 := Tryd.sizeOf60
  v146 := Tryd.zeroValue60 }
open Go.RowKit Go.Lib in
theorem Tryd.bytealg_IndexRabinKarp (s sep : ByteArray) (h1 : 1 ≤ sep.size) (h2 : sep.size ≤ s.size) (hs : s.size < 4294967281) (w : World) :
    Calls Tryd.prog 38 #[.string s, .string sep] w fun e w' => e = .returned (.int .i64 (Lib.index s.data.toList sep.data.toList)) ∧ w' = w := Any.bytealg_IndexRabinKarp Tryd.lays267 s sep h1 h2 hs w
def Tryd.lays219_ren : Go.Shelf.Ren := ⟨fun | 219 => 33 | 217 => 35 | 225 => 36 | 224 => 37 | 267 => 38 | 266 => 39 | 314 => 40 | n => n, fun | 9 => 9 | 3 => 3 | 4 => 4 | 5 => 5 | 46 => 45 | 146 => 60 | 51 => 59 | n => n, fun | 1 => 2 | n => n⟩
theorem Tryd.lays219 : Go.Proofs.Lays.n219 Tryd.prog Tryd.lays219_ren := {
  mixed := by kernel_rfl
  f217 := Tryd.func35.trans (congrArg some (by kernel_rfl))
  f219 := Tryd.func33.trans (congrArg some (by kernel_rfl))
  f224 := Tryd.func37.trans (congrArg some (by kernel_rfl))
  f225 := Tryd.func36.trans (congrArg some (by kernel_rfl))
  f266 := Tryd.func39.trans (congrArg some (by kernel_rfl))
  f267 := Tryd.func38.trans (congrArg some (by kernel_rfl))
  f314 := Tryd.func40.trans (congrArg some (by kernel_rfl))
  t3 := Tryd.underlying3
  a3 := Tryd.isAgg3
  z3 := Tryd.sizeOf3
  v3 := Tryd.zeroValue3
  t4 := Tryd.underlying4
  a4 := Tryd.isAgg4
  z4 := Tryd.sizeOf4
  v4 := Tryd.zeroValue4
  t5 := Tryd.underlying5
  a5 := Tryd.isAgg5
  z5 := Tryd.sizeOf5
  v5 := Tryd.zeroValue5
  t9 := Tryd.underlying9
  a9 := Tryd.isAgg9
  z9 := Tryd.sizeOf9
  v9 := Tryd.zeroValue9
  t46 := Tryd.underlying45
  a46 := Tryd.isAgg45
  z46 := Tryd.sizeOf45
  v46 := Tryd.zeroValue45
  t51 := Tryd.underlying59
  a51 := Tryd.isAgg59
  z51 := Tryd.sizeOf59
  v51 := Tryd.zeroValue59
  t146 := Tryd.underlying60
  a146 := Tryd.isAgg60
  z146 := Tryd.sizeOf60
  v146 := Tryd.zeroValue60
  g1 := by kernel_rfl }
open Go.RowKit Go.Lib in
/-- internal/stringslite.Index (what strings.Index calls) AT A substr OF ONE BYTE c: IT RETURNS 'Lib.indexByte s c'; the world is as it was. (LAID: no walk: one application.) -/
theorem Tryd.stringslite_Index_one (s : ByteArray) (c : UInt8) (w : World) :
    Calls Tryd.prog 33 #[.string s, .string ⟨#[c]⟩] w fun e w' => e = .returned (.int .i64 (Lib.indexByte s.data.toList c)) ∧ w' = w := Any.stringslite_Index_one Tryd.lays219 s c w
open Go.RowKit Go.Lib in
/-- internal/stringslite.Index (what strings.Index calls) AT A substr OF WHATEVER LENGTH: IT RETURNS 'Lib.index s substr'; the world is as it was. 'm': what internal/bytealg.MaxLen holds: whatever. (LAID: no walk: one application.) -/
theorem Tryd.stringslite_Index (s sub : ByteArray) (m : Int) (w : World) (hs : s.size < 4294967281) (hm : w.cell? ⟨2, 0, none⟩ = some (.int .i64 m)) :
    Calls Tryd.prog 33 #[.string s, .string sub] w fun e w' => e = .returned (.int .i64 (Lib.index s.data.toList sub.data.toList)) ∧ w' = w := Any.stringslite_Index Tryd.lays219 s sub m w hs hm
def Tryd.lays143_ren : Go.Shelf.Ren := ⟨fun | 143 => 29 | 219 => 33 | 217 => 35 | 225 => 36 | 224 => 37 | 267 => 38 | 266 => 39 | 314 => 40 | n => n, fun | 9 => 9 | 3 => 3 | 4 => 4 | 5 => 5 | 46 => 45 | 146 => 60 | 51 => 59 | n => n, fun | 1 => 2 | n => n⟩
theorem Tryd.lays143 : Go.Proofs.Lays.n143 Tryd.prog Tryd.lays143_ren := {
  mixed := by kernel_rfl
  f143 := Tryd.func29.trans (congrArg some (by kernel_rfl))
  f217 := Tryd.func35.trans (congrArg some (by kernel_rfl))
  f219 := Tryd.func33.trans (congrArg some (by kernel_rfl))
  f224 := Tryd.func37.trans (congrArg some (by kernel_rfl))
  f225 := Tryd.func36.trans (congrArg some (by kernel_rfl))
  f266 := Tryd.func39.trans (congrArg some (by kernel_rfl))
  f267 := Tryd.func38.trans (congrArg some (by kernel_rfl))
  f314 := Tryd.func40.trans (congrArg some (by kernel_rfl))
  t3 := Tryd.underlying3
  a3 := Tryd.isAgg3
  z3 := Tryd.sizeOf3
  v3 := Tryd.zeroValue3
  t4 := Tryd.underlying4
  a4 := Tryd.isAgg4
  z4 := Tryd.sizeOf4
  v4 := Tryd.zeroValue4
  t5 := Tryd.underlying5
  a5 := Tryd.isAgg5
  z5 := Tryd.sizeOf5
  v5 := Tryd.zeroValue5
  t9 := Tryd.underlying9
  a9 := Tryd.isAgg9
  z9 := Tryd.sizeOf9
  v9 := Tryd.zeroValue9
  t46 := Tryd.underlying45
  a46 := Tryd.isAgg45
  z46 := Tryd.sizeOf45
  v46 := Tryd.zeroValue45
  t51 := Tryd.underlying59
  a51 := Tryd.isAgg59
  z51 := Tryd.sizeOf59
  v51 := Tryd.zeroValue59
  t146 := Tryd.underlying60
  a146 := Tryd.isAgg60
  z146 := Tryd.sizeOf60
  v146 := Tryd.zeroValue60
  g1 := by kernel_rfl }
open Go.RowKit Go.Lib in
/-- strings.Index: "Index returns the index of the first instance of substr in s, or -1 if substr is not present in s.": AT A substr OF ONE BYTE c: IT RETURNS 'Lib.indexByte s c'; the world is as it was. (LAID: no walk: one application.) -/
theorem Tryd.strings_Index_one (s : ByteArray) (c : UInt8) (w : World) :
    Calls Tryd.prog 29 #[.string s, .string ⟨#[c]⟩] w fun e w' => e = .returned (.int .i64 (Lib.indexByte s.data.toList c)) ∧ w' = w := Any.strings_Index_one Tryd.lays143 s c w
open Go.RowKit Go.Lib in
/-- strings.Index: "Index returns the index of the first instance of substr in s, or -1 if substr is not present in s.": IT RETURNS 'Lib.index s substr'; the world is as it was. (LAID: no walk: one application.) -/
theorem Tryd.strings_Index (s sub : ByteArray) (m : Int) (w : World) (hs : s.size < 4294967281) (hm : w.cell? ⟨2, 0, none⟩ = some (.int .i64 m)) :
    Calls Tryd.prog 29 #[.string s, .string sub] w fun e w' => e = .returned (.int .i64 (Lib.index s.data.toList sub.data.toList)) ∧ w' = w := Any.strings_Index Tryd.lays143 s sub m w hs hm
def Tryd.lays138_ren : Go.Shelf.Ren := ⟨fun | 138 => 28 | 195 => 30 | 218 => 32 | 143 => 29 | 219 => 33 | 217 => 35 | 225 => 36 | 224 => 37 | 267 => 38 | 266 => 39 | 314 => 40 | n => n, fun | 9 => 9 | 3 => 3 | 4 => 4 | 5 => 5 | 0 => 0 | 46 => 45 | 146 => 60 | 51 => 59 | n => n, fun | 1 => 2 | n => n⟩
theorem Tryd.lays138 : Go.Proofs.Lays.n138 Tryd.prog Tryd.lays138_ren := {
  mixed := by kernel_rfl
  f138 := Tryd.func28.trans (congrArg some (by kernel_rfl))
  f143 := Tryd.func29.trans (congrArg some (by kernel_rfl))
  f195 := Tryd.func30.trans (congrArg some (by kernel_rfl))
  f217 := Tryd.func35.trans (congrArg some (by kernel_rfl))
  f218 := Tryd.func32.trans (congrArg some (by kernel_rfl))
  f219 := Tryd.func33.trans (congrArg some (by kernel_rfl))
  f224 := Tryd.func37.trans (congrArg some (by kernel_rfl))
  f225 := Tryd.func36.trans (congrArg some (by kernel_rfl))
  f266 := Tryd.func39.trans (congrArg some (by kernel_rfl))
  f267 := Tryd.func38.trans (congrArg some (by kernel_rfl))
  f314 := Tryd.func40.trans (congrArg some (by kernel_rfl))
  t0 := Tryd.underlying0
  a0 := Tryd.isAgg0
  z0 := Tryd.sizeOf0
  v0 := Tryd.zeroValue0
  t3 := Tryd.underlying3
  a3 := Tryd.isAgg3
  z3 := Tryd.sizeOf3
  v3 := Tryd.zeroValue3
  t4 := Tryd.underlying4
  a4 := Tryd.isAgg4
  z4 := Tryd.sizeOf4
  v4 := Tryd.zeroValue4
  t5 := Tryd.underlying5
  a5 := Tryd.isAgg5
  z5 := Tryd.sizeOf5
  v5 := Tryd.zeroValue5
  t9 := Tryd.underlying9
  a9 := Tryd.isAgg9
  z9 := Tryd.sizeOf9
  v9 := Tryd.zeroValue9
  t46 := Tryd.underlying45
  a46 := Tryd.isAgg45
  z46 := Tryd.sizeOf45
  v46 := Tryd.zeroValue45
  t51 := Tryd.underlying59
  a51 := Tryd.isAgg59
  z51 := Tryd.sizeOf59
  v51 := Tryd.zeroValue59
  t146 := Tryd.underlying60
  a146 := Tryd.isAgg60
  z146 := Tryd.sizeOf60
  v146 := Tryd.zeroValue60
  g1 := by kernel_rfl }
open Go.RowKit Go.Lib in
/-- strings.Count AT A substr OF ONE BYTE ('hp'): "Count counts the number of non-overlapping instances of substr in s.": IT RETURNS 'Lib.countByte s (that byte)'; the world is as it was. ✋ NO CONTRACT HERE YET at an empty substr (utf8.RuneCountInString) or at a longer one (a loop over strings.Index). (LAID: no walk: one application.) -/
theorem Tryd.strings_Count_one (s : ByteArray) (c : UInt8) (w : World) :
    Calls Tryd.prog 28 #[.string s, .string ⟨#[c]⟩] w fun e w' => e = .returned (.int .i64 (Lib.countByte s.data.toList c)) ∧ w' = w := Any.strings_Count_one Tryd.lays138 s c w
open Go.RowKit Go.Lib in
/-- strings.Count AT A substr OF TWO BYTES OR MORE: "Count counts the number of non-overlapping instances of substr in s.": IT RETURNS 'Lib.count s substr'; the world is as it was. (LAID: no walk: one application.) -/
theorem Tryd.strings_Count (s sub : ByteArray) (m : Int) (w : World) (hs : s.size < 4294967281) (hm : w.cell? ⟨2, 0, none⟩ = some (.int .i64 m)) (h2 : 2 ≤ sub.size) :
    Calls Tryd.prog 28 #[.string s, .string sub] w fun e w' => e = .returned (.int .i64 (Lib.countB s sub)) ∧ w' = w := Any.strings_Count Tryd.lays138 s sub m w hs hm h2
def Tryd.laysM219_ren : Go.Shelf.Ren := ⟨fun | 219 => 33 | 217 => 35 | 225 => 36 | 224 => 37 | 267 => 38 | 266 => 39 | 314 => 40 | n => n, fun | 9 => 9 | 3 => 3 | 4 => 4 | 5 => 5 | 46 => 45 | 146 => 60 | 51 => 59 | n => n, fun | 1 => 2 | n => n⟩
theorem Tryd.laysM219 : Go.Proofs.LaysM.n219 Tryd.prog Tryd.laysM219_ren := {
  mixed := by kernel_rfl
  f217 := Tryd.func35.trans (congrArg some (by kernel_rfl))
  f219 := Tryd.func33.trans (congrArg some (by kernel_rfl))
  f224 := Tryd.func37.trans (congrArg some (by kernel_rfl))
  f225 := Tryd.func36.trans (congrArg some (by kernel_rfl))
  f266 := Tryd.func39.trans (congrArg some (by kernel_rfl))
  f267 := Tryd.func38.trans (congrArg some (by kernel_rfl))
  f314 := Tryd.func40.trans (congrArg some (by kernel_rfl))
  t3 := Tryd.underlying3
  a3 := Tryd.isAgg3
  z3 := Tryd.sizeOf3
  v3 := Tryd.zeroValue3
  t4 := Tryd.underlying4
  a4 := Tryd.isAgg4
  z4 := Tryd.sizeOf4
  v4 := Tryd.zeroValue4
  t5 := Tryd.underlying5
  a5 := Tryd.isAgg5
  z5 := Tryd.sizeOf5
  v5 := Tryd.zeroValue5
  t9 := Tryd.underlying9
  a9 := Tryd.isAgg9
  z9 := Tryd.sizeOf9
  v9 := Tryd.zeroValue9
  t46 := Tryd.underlying45
  a46 := Tryd.isAgg45
  z46 := Tryd.sizeOf45
  v46 := Tryd.zeroValue45
  t51 := Tryd.underlying59
  a51 := Tryd.isAgg59
  z51 := Tryd.sizeOf59
  v51 := Tryd.zeroValue59
  t146 := Tryd.underlying60
  a146 := Tryd.isAgg60
  z146 := Tryd.sizeOf60
  v146 := Tryd.zeroValue60
  g1 := by kernel_rfl
  i3 := by kernel_rfl
  i4 := by kernel_rfl
  i5 := by kernel_rfl
  i9 := by kernel_rfl
  i46 := by kernel_rfl
  i51 := by kernel_rfl
  i146 := by kernel_rfl
  m1 := by kernel_rfl
  s1_3 := fun w h => Go.Proofs.cell_of_shapedOpen_int (zero := #[.int .i64 0]) (t := 3) h (of_decide_eq_true (by kernel_rfl)) (by kernel_rfl) rfl (by kernel_rfl) (by kernel_rfl) Tryd.underlying3 }
open Go.RowKit Go.Lib in
theorem Tryd.stringslite_Index_shaped (s sub : ByteArray) (w : World) (h : w.ShapedOpen Tryd.prog) (hs : s.size < 4294967281) :
    Calls Tryd.prog 33 #[.string s, .string sub] w fun e w' => e = .returned (.int .i64 (Lib.index s.data.toList sub.data.toList)) ∧ w' = w := Any.stringslite_Index_shaped Tryd.laysM219 s sub w h hs
def Tryd.laysM143_ren : Go.Shelf.Ren := ⟨fun | 143 => 29 | 219 => 33 | 217 => 35 | 225 => 36 | 224 => 37 | 267 => 38 | 266 => 39 | 314 => 40 | n => n, fun | 9 => 9 | 3 => 3 | 4 => 4 | 5 => 5 | 46 => 45 | 146 => 60 | 51 => 59 | n => n, fun | 1 => 2 | n => n⟩
theorem Tryd.laysM143 : Go.Proofs.LaysM.n143 Tryd.prog Tryd.laysM143_ren := {
  mixed := by kernel_rfl
  f143 := Tryd.func29.trans (congrArg some (by kernel_rfl))
  f217 := Tryd.func35.trans (congrArg some (by kernel_rfl))
  f219 := Tryd.func33.trans (congrArg some (by kernel_rfl))
  f224 := Tryd.func37.trans (congrArg some (by kernel_rfl))
  f225 := Tryd.func36.trans (congrArg some (by kernel_rfl))
  f266 := Tryd.func39.trans (congrArg some (by kernel_rfl))
  f267 := Tryd.func38.trans (congrArg some (by kernel_rfl))
  f314 := Tryd.func40.trans (congrArg some (by kernel_rfl))
  t3 := Tryd.underlying3
  a3 := Tryd.isAgg3
  z3 := Tryd.sizeOf3
  v3 := Tryd.zeroValue3
  t4 := Tryd.underlying4
  a4 := Tryd.isAgg4
  z4 := Tryd.sizeOf4
  v4 := Tryd.zeroValue4
  t5 := Tryd.underlying5
  a5 := Tryd.isAgg5
  z5 := Tryd.sizeOf5
  v5 := Tryd.zeroValue5
  t9 := Tryd.underlying9
  a9 := Tryd.isAgg9
  z9 := Tryd.sizeOf9
  v9 := Tryd.zeroValue9
  t46 := Tryd.underlying45
  a46 := Tryd.isAgg45
  z46 := Tryd.sizeOf45
  v46 := Tryd.zeroValue45
  t51 := Tryd.underlying59
  a51 := Tryd.isAgg59
  z51 := Tryd.sizeOf59
  v51 := Tryd.zeroValue59
  t146 := Tryd.underlying60
  a146 := Tryd.isAgg60
  z146 := Tryd.sizeOf60
  v146 := Tryd.zeroValue60
  g1 := by kernel_rfl
  i3 := by kernel_rfl
  i4 := by kernel_rfl
  i5 := by kernel_rfl
  i9 := by kernel_rfl
  i46 := by kernel_rfl
  i51 := by kernel_rfl
  i146 := by kernel_rfl
  m1 := by kernel_rfl
  s1_3 := fun w h => Go.Proofs.cell_of_shapedOpen_int (zero := #[.int .i64 0]) (t := 3) h (of_decide_eq_true (by kernel_rfl)) (by kernel_rfl) rfl (by kernel_rfl) (by kernel_rfl) Tryd.underlying3 }
open Go.RowKit Go.Lib in
theorem Tryd.strings_Index_shaped (s sub : ByteArray) (w : World) (h : w.ShapedOpen Tryd.prog) (hs : s.size < 4294967281) :
    Calls Tryd.prog 29 #[.string s, .string sub] w fun e w' => e = .returned (.int .i64 (Lib.index s.data.toList sub.data.toList)) ∧ w' = w := Any.strings_Index_shaped Tryd.laysM143 s sub w h hs
def Tryd.laysM138_ren : Go.Shelf.Ren := ⟨fun | 138 => 28 | 195 => 30 | 218 => 32 | 143 => 29 | 219 => 33 | 217 => 35 | 225 => 36 | 224 => 37 | 267 => 38 | 266 => 39 | 314 => 40 | n => n, fun | 9 => 9 | 3 => 3 | 4 => 4 | 5 => 5 | 0 => 0 | 46 => 45 | 146 => 60 | 51 => 59 | n => n, fun | 1 => 2 | n => n⟩
theorem Tryd.laysM138 : Go.Proofs.LaysM.n138 Tryd.prog Tryd.laysM138_ren := {
  mixed := by kernel_rfl
  f138 := Tryd.func28.trans (congrArg some (by kernel_rfl))
  f143 := Tryd.func29.trans (congrArg some (by kernel_rfl))
  f195 := Tryd.func30.trans (congrArg some (by kernel_rfl))
  f217 := Tryd.func35.trans (congrArg some (by kernel_rfl))
  f218 := Tryd.func32.trans (congrArg some (by kernel_rfl))
  f219 := Tryd.func33.trans (congrArg some (by kernel_rfl))
  f224 := Tryd.func37.trans (congrArg some (by kernel_rfl))
  f225 := Tryd.func36.trans (congrArg some (by kernel_rfl))
  f266 := Tryd.func39.trans (congrArg some (by kernel_rfl))
  f267 := Tryd.func38.trans (congrArg some (by kernel_rfl))
  f314 := Tryd.func40.trans (congrArg some (by kernel_rfl))
  t0 := Tryd.underlying0
  a0 := Tryd.isAgg0
  z0 := Tryd.sizeOf0
  v0 := Tryd.zeroValue0
  t3 := Tryd.underlying3
  a3 := Tryd.isAgg3
  z3 := Tryd.sizeOf3
  v3 := Tryd.zeroValue3
  t4 := Tryd.underlying4
  a4 := Tryd.isAgg4
  z4 := Tryd.sizeOf4
  v4 := Tryd.zeroValue4
  t5 := Tryd.underlying5
  a5 := Tryd.isAgg5
  z5 := Tryd.sizeOf5
  v5 := Tryd.zeroValue5
  t9 := Tryd.underlying9
  a9 := Tryd.isAgg9
  z9 := Tryd.sizeOf9
  v9 := Tryd.zeroValue9
  t46 := Tryd.underlying45
  a46 := Tryd.isAgg45
  z46 := Tryd.sizeOf45
  v46 := Tryd.zeroValue45
  t51 := Tryd.underlying59
  a51 := Tryd.isAgg59
  z51 := Tryd.sizeOf59
  v51 := Tryd.zeroValue59
  t146 := Tryd.underlying60
  a146 := Tryd.isAgg60
  z146 := Tryd.sizeOf60
  v146 := Tryd.zeroValue60
  g1 := by kernel_rfl
  i0 := by kernel_rfl
  i3 := by kernel_rfl
  i4 := by kernel_rfl
  i5 := by kernel_rfl
  i9 := by kernel_rfl
  i46 := by kernel_rfl
  i51 := by kernel_rfl
  i146 := by kernel_rfl
  m1 := by kernel_rfl
  s1_3 := fun w h => Go.Proofs.cell_of_shapedOpen_int (zero := #[.int .i64 0]) (t := 3) h (of_decide_eq_true (by kernel_rfl)) (by kernel_rfl) rfl (by kernel_rfl) (by kernel_rfl) Tryd.underlying3 }
open Go.RowKit Go.Lib in
theorem Tryd.strings_Count_shaped (s sub : ByteArray) (w : World) (h : w.ShapedOpen Tryd.prog) (hs : s.size < 4294967281) (h2 : 2 ≤ sub.size) :
    Calls Tryd.prog 28 #[.string s, .string sub] w fun e w' => e = .returned (.int .i64 (Lib.countB s sub)) ∧ w' = w := Any.strings_Count_shaped Tryd.laysM138 s sub w h hs h2
open Go.RowKit Go.Lib in
/-- strings.Count at whatever sep that is not empty: the two roads under one statement. (LAID: no walk: one application.) -/
theorem Tryd.strings_Count_any (s sep : ByteArray) (m : Int) (w : World) (hs : s.size < 4294967281) (hm : w.cell? ⟨2, 0, none⟩ = some (.int .i64 m)) (h1 : 1 ≤ sep.size) :
    Calls Tryd.prog 28 #[.string s, .string sep] w fun e w' => e = .returned (.int .i64 (Lib.countB s sep)) ∧ w' = w := Any.strings_Count_any Tryd.lays138 s sep m w hs hm h1
def Tryd.lays221_ren : Go.Shelf.Ren := ⟨fun | 221 => 25 | 268 => 27 | 138 => 28 | 143 => 29 | 195 => 30 | 197 => 31 | 218 => 32 | 219 => 33 | 260 => 34 | 217 => 35 | 225 => 36 | 224 => 37 | 267 => 38 | 266 => 39 | 314 => 40 | n => n, fun | 9 => 9 | 3 => 3 | 31 => 37 | 4 => 4 | 0 => 0 | 105 => 51 | 21 => 21 | 5 => 5 | 46 => 45 | 119 => 55 | 139 => 58 | 138 => 57 | 146 => 60 | 51 => 59 | n => n, fun | 1 => 2 | 3 => 3 | 4 => 4 | n => n⟩
theorem Tryd.lays221 : Go.Proofs.Lays.n221 Tryd.prog Tryd.lays221_ren := {
  mixed := by kernel_rfl
  f138 := Tryd.func28.trans (congrArg some (by kernel_rfl))
  f143 := Tryd.func29.trans (congrArg some (by kernel_rfl))
  f195 := Tryd.func30.trans (congrArg some (by kernel_rfl))
  f197 := Tryd.func31.trans (congrArg some (by kernel_rfl))
  f217 := Tryd.func35.trans (congrArg some (by kernel_rfl))
  f218 := Tryd.func32.trans (congrArg some (by kernel_rfl))
  f219 := Tryd.func33.trans (congrArg some (by kernel_rfl))
  f221 := Tryd.func25.trans (congrArg some (by kernel_rfl))
  f224 := Tryd.func37.trans (congrArg some (by kernel_rfl))
  f225 := Tryd.func36.trans (congrArg some (by kernel_rfl))
  f260 := Tryd.func34.trans (congrArg some (by kernel_rfl))
  f266 := Tryd.func39.trans (congrArg some (by kernel_rfl))
  f267 := Tryd.func38.trans (congrArg some (by kernel_rfl))
  f268 := Tryd.func27.trans (congrArg some (by kernel_rfl))
  f314 := Tryd.func40.trans (congrArg some (by kernel_rfl))
  t0 := Tryd.underlying0
  a0 := Tryd.isAgg0
  z0 := Tryd.sizeOf0
  v0 := Tryd.zeroValue0
  t3 := Tryd.underlying3
  a3 := Tryd.isAgg3
  z3 := Tryd.sizeOf3
  v3 := Tryd.zeroValue3
  t4 := Tryd.underlying4
  a4 := Tryd.isAgg4
  z4 := Tryd.sizeOf4
  v4 := Tryd.zeroValue4
  t5 := Tryd.underlying5
  a5 := Tryd.isAgg5
  z5 := Tryd.sizeOf5
  v5 := Tryd.zeroValue5
  t9 := Tryd.underlying9
  a9 := Tryd.isAgg9
  z9 := Tryd.sizeOf9
  v9 := Tryd.zeroValue9
  t21 := Tryd.underlying21
  a21 := Tryd.isAgg21
  z21 := Tryd.sizeOf21
  v21 := Tryd.zeroValue21
  t31 := Tryd.underlying37
  a31 := Tryd.isAgg37
  z31 := Tryd.sizeOf37
  v31 := Tryd.zeroValue37
  t46 := Tryd.underlying45
  a46 := Tryd.isAgg45
  z46 := Tryd.sizeOf45
  v46 := Tryd.zeroValue45
  t51 := Tryd.underlying59
  a51 := Tryd.isAgg59
  z51 := Tryd.sizeOf59
  v51 := Tryd.zeroValue59
  t105 := Tryd.underlying51
  a105 := Tryd.isAgg51
  z105 := Tryd.sizeOf51
  v105 := Tryd.zeroValue51
  t119 := Tryd.underlying55
  a119 := Tryd.isAgg55
  z119 := Tryd.sizeOf55
  t138 := Tryd.underlying57
  a138 := Tryd.isAgg57
  z138 := Tryd.sizeOf57
  v138 := Tryd.zeroValue57
  t139 := Tryd.underlying58
  a139 := Tryd.isAgg58
  z139 := Tryd.sizeOf58
  v139 := Tryd.zeroValue58
  t146 := Tryd.underlying60
  a146 := Tryd.isAgg60
  z146 := Tryd.sizeOf60
  v146 := Tryd.zeroValue60
  g1 := by kernel_rfl
  g3 := by kernel_rfl
  g4 := by kernel_rfl }
open Go.RowKit Go.Lib in
theorem Tryd.strings_genSplit (s sep : ByteArray) (sv : Nat) (n : Int) (N : Nat) (m : Int) (w : World) (hs : s.size < 4294967281) (hm : w.cell? ⟨2, 0, none⟩ = some (.int .i64 m)) (h1 : 1 ≤ sep.size) (hsv : sv ≤ sep.size) (hn0 : n ≠ 0) (hn63 : n ≤ 9223372036854775807) (hN : (N : Int) = min (if n < 0 then (Lib.countB s sep : Int) + 1 else n) ((s.size : Int) + 1)) :
    Calls Tryd.prog 25 #[.string s, .string sep, .int .i64 sv, .int .i64 n] w fun e w' =>
      e = .returned (.slice (some ⟨w.heap.size, 0, none⟩) (Lib.splitB sep sv (N - 1) s).length N) ∧ w' = w.alloc (.cells (Lib.cellsOf (Lib.splitB sep sv (N - 1) s) N) 9) := Any.strings_genSplit Tryd.lays221 (by kernel_rfl) s sep sv n N m w hs hm h1 hsv hn0 hn63 hN
def Tryd.lays146_ren : Go.Shelf.Ren := ⟨fun | 146 => 19 | 221 => 25 | 268 => 27 | 138 => 28 | 143 => 29 | 195 => 30 | 197 => 31 | 218 => 32 | 219 => 33 | 260 => 34 | 217 => 35 | 225 => 36 | 224 => 37 | 267 => 38 | 266 => 39 | 314 => 40 | n => n, fun | 9 => 9 | 31 => 37 | 3 => 3 | 4 => 4 | 0 => 0 | 105 => 51 | 21 => 21 | 5 => 5 | 46 => 45 | 119 => 55 | 139 => 58 | 138 => 57 | 146 => 60 | 51 => 59 | n => n, fun | 1 => 2 | 3 => 3 | 4 => 4 | n => n⟩
theorem Tryd.lays146 : Go.Proofs.Lays.n146 Tryd.prog Tryd.lays146_ren := {
  mixed := by kernel_rfl
  f138 := Tryd.func28.trans (congrArg some (by kernel_rfl))
  f143 := Tryd.func29.trans (congrArg some (by kernel_rfl))
  f146 := Tryd.func19.trans (congrArg some (by kernel_rfl))
  f195 := Tryd.func30.trans (congrArg some (by kernel_rfl))
  f197 := Tryd.func31.trans (congrArg some (by kernel_rfl))
  f217 := Tryd.func35.trans (congrArg some (by kernel_rfl))
  f218 := Tryd.func32.trans (congrArg some (by kernel_rfl))
  f219 := Tryd.func33.trans (congrArg some (by kernel_rfl))
  f221 := Tryd.func25.trans (congrArg some (by kernel_rfl))
  f224 := Tryd.func37.trans (congrArg some (by kernel_rfl))
  f225 := Tryd.func36.trans (congrArg some (by kernel_rfl))
  f260 := Tryd.func34.trans (congrArg some (by kernel_rfl))
  f266 := Tryd.func39.trans (congrArg some (by kernel_rfl))
  f267 := Tryd.func38.trans (congrArg some (by kernel_rfl))
  f268 := Tryd.func27.trans (congrArg some (by kernel_rfl))
  f314 := Tryd.func40.trans (congrArg some (by kernel_rfl))
  t0 := Tryd.underlying0
  a0 := Tryd.isAgg0
  z0 := Tryd.sizeOf0
  v0 := Tryd.zeroValue0
  t3 := Tryd.underlying3
  a3 := Tryd.isAgg3
  z3 := Tryd.sizeOf3
  v3 := Tryd.zeroValue3
  t4 := Tryd.underlying4
  a4 := Tryd.isAgg4
  z4 := Tryd.sizeOf4
  v4 := Tryd.zeroValue4
  t5 := Tryd.underlying5
  a5 := Tryd.isAgg5
  z5 := Tryd.sizeOf5
  v5 := Tryd.zeroValue5
  t9 := Tryd.underlying9
  a9 := Tryd.isAgg9
  z9 := Tryd.sizeOf9
  v9 := Tryd.zeroValue9
  t21 := Tryd.underlying21
  a21 := Tryd.isAgg21
  z21 := Tryd.sizeOf21
  v21 := Tryd.zeroValue21
  t31 := Tryd.underlying37
  a31 := Tryd.isAgg37
  z31 := Tryd.sizeOf37
  v31 := Tryd.zeroValue37
  t46 := Tryd.underlying45
  a46 := Tryd.isAgg45
  z46 := Tryd.sizeOf45
  v46 := Tryd.zeroValue45
  t51 := Tryd.underlying59
  a51 := Tryd.isAgg59
  z51 := Tryd.sizeOf59
  v51 := Tryd.zeroValue59
  t105 := Tryd.underlying51
  a105 := Tryd.isAgg51
  z105 := Tryd.sizeOf51
  v105 := Tryd.zeroValue51
  t119 := Tryd.underlying55
  a119 := Tryd.isAgg55
  z119 := Tryd.sizeOf55
  t138 := Tryd.underlying57
  a138 := Tryd.isAgg57
  z138 := Tryd.sizeOf57
  v138 := Tryd.zeroValue57
  t139 := Tryd.underlying58
  a139 := Tryd.isAgg58
  z139 := Tryd.sizeOf58
  v139 := Tryd.zeroValue58
  t146 := Tryd.underlying60
  a146 := Tryd.isAgg60
  z146 := Tryd.sizeOf60
  v146 := Tryd.zeroValue60
  g1 := by kernel_rfl
  g3 := by kernel_rfl
  g4 := by kernel_rfl }
open Go.RowKit Go.Lib in
/-- strings.Split. (LAID: no walk: one application.) -/
theorem Tryd.strings_Split (s sep : ByteArray) (m : Int) (w : World) (hs : s.size < 4294967281) (hm : w.cell? ⟨2, 0, none⟩ = some (.int .i64 m)) (h1 : 1 ≤ sep.size) :
    Calls Tryd.prog 19 #[.string s, .string sep] w fun e w' =>
      e = .returned (.slice (some ⟨w.heap.size, 0, none⟩) (Lib.countB s sep + 1) (Lib.countB s sep + 1)) ∧ w' = w.alloc (.cells ((Lib.splitB sep 0 (Lib.countB s sep) s).map Value.string).toArray 9) := Any.strings_Split Tryd.lays146 (by kernel_rfl) s sep m w hs hm h1
def Tryd.laysM146_ren : Go.Shelf.Ren := ⟨fun | 146 => 19 | 221 => 25 | 268 => 27 | 138 => 28 | 143 => 29 | 195 => 30 | 197 => 31 | 218 => 32 | 219 => 33 | 260 => 34 | 217 => 35 | 225 => 36 | 224 => 37 | 267 => 38 | 266 => 39 | 314 => 40 | n => n, fun | 9 => 9 | 31 => 37 | 3 => 3 | 4 => 4 | 0 => 0 | 105 => 51 | 21 => 21 | 5 => 5 | 46 => 45 | 119 => 55 | 139 => 58 | 138 => 57 | 146 => 60 | 51 => 59 | n => n, fun | 1 => 2 | 3 => 3 | 4 => 4 | n => n⟩
theorem Tryd.laysM146 : Go.Proofs.LaysM.n146 Tryd.prog Tryd.laysM146_ren := {
  mixed := by kernel_rfl
  f138 := Tryd.func28.trans (congrArg some (by kernel_rfl))
  f143 := Tryd.func29.trans (congrArg some (by kernel_rfl))
  f146 := Tryd.func19.trans (congrArg some (by kernel_rfl))
  f195 := Tryd.func30.trans (congrArg some (by kernel_rfl))
  f197 := Tryd.func31.trans (congrArg some (by kernel_rfl))
  f217 := Tryd.func35.trans (congrArg some (by kernel_rfl))
  f218 := Tryd.func32.trans (congrArg some (by kernel_rfl))
  f219 := Tryd.func33.trans (congrArg some (by kernel_rfl))
  f221 := Tryd.func25.trans (congrArg some (by kernel_rfl))
  f224 := Tryd.func37.trans (congrArg some (by kernel_rfl))
  f225 := Tryd.func36.trans (congrArg some (by kernel_rfl))
  f260 := Tryd.func34.trans (congrArg some (by kernel_rfl))
  f266 := Tryd.func39.trans (congrArg some (by kernel_rfl))
  f267 := Tryd.func38.trans (congrArg some (by kernel_rfl))
  f268 := Tryd.func27.trans (congrArg some (by kernel_rfl))
  f314 := Tryd.func40.trans (congrArg some (by kernel_rfl))
  t0 := Tryd.underlying0
  a0 := Tryd.isAgg0
  z0 := Tryd.sizeOf0
  v0 := Tryd.zeroValue0
  t3 := Tryd.underlying3
  a3 := Tryd.isAgg3
  z3 := Tryd.sizeOf3
  v3 := Tryd.zeroValue3
  t4 := Tryd.underlying4
  a4 := Tryd.isAgg4
  z4 := Tryd.sizeOf4
  v4 := Tryd.zeroValue4
  t5 := Tryd.underlying5
  a5 := Tryd.isAgg5
  z5 := Tryd.sizeOf5
  v5 := Tryd.zeroValue5
  t9 := Tryd.underlying9
  a9 := Tryd.isAgg9
  z9 := Tryd.sizeOf9
  v9 := Tryd.zeroValue9
  t21 := Tryd.underlying21
  a21 := Tryd.isAgg21
  z21 := Tryd.sizeOf21
  v21 := Tryd.zeroValue21
  t31 := Tryd.underlying37
  a31 := Tryd.isAgg37
  z31 := Tryd.sizeOf37
  v31 := Tryd.zeroValue37
  t46 := Tryd.underlying45
  a46 := Tryd.isAgg45
  z46 := Tryd.sizeOf45
  v46 := Tryd.zeroValue45
  t51 := Tryd.underlying59
  a51 := Tryd.isAgg59
  z51 := Tryd.sizeOf59
  v51 := Tryd.zeroValue59
  t105 := Tryd.underlying51
  a105 := Tryd.isAgg51
  z105 := Tryd.sizeOf51
  v105 := Tryd.zeroValue51
  t119 := Tryd.underlying55
  a119 := Tryd.isAgg55
  z119 := Tryd.sizeOf55
  t138 := Tryd.underlying57
  a138 := Tryd.isAgg57
  z138 := Tryd.sizeOf57
  v138 := Tryd.zeroValue57
  t139 := Tryd.underlying58
  a139 := Tryd.isAgg58
  z139 := Tryd.sizeOf58
  v139 := Tryd.zeroValue58
  t146 := Tryd.underlying60
  a146 := Tryd.isAgg60
  z146 := Tryd.sizeOf60
  v146 := Tryd.zeroValue60
  g1 := by kernel_rfl
  g3 := by kernel_rfl
  g4 := by kernel_rfl
  i0 := by kernel_rfl
  i3 := by kernel_rfl
  i4 := by kernel_rfl
  i5 := by kernel_rfl
  i9 := by kernel_rfl
  i21 := by kernel_rfl
  i31 := by kernel_rfl
  i46 := by kernel_rfl
  i51 := by kernel_rfl
  i105 := by kernel_rfl
  i138 := by kernel_rfl
  i139 := by kernel_rfl
  i146 := by kernel_rfl
  m1 := by kernel_rfl
  s1_3 := fun w h => Go.Proofs.cell_of_shapedOpen_int (zero := #[.int .i64 0]) (t := 3) h (of_decide_eq_true (by kernel_rfl)) (by kernel_rfl) rfl (by kernel_rfl) (by kernel_rfl) Tryd.underlying3
  m3 := by kernel_rfl
  m4 := by kernel_rfl }
open Go.RowKit Go.Lib in
/-- strings.Split, sep not empty. (LAID: no walk: one application.) -/
theorem Tryd.strings_Split_shaped (s sep : ByteArray) (w : World) (h : w.ShapedOpen Tryd.prog) (hs : s.size < 4294967281) (h1 : 1 ≤ sep.size) :
    Calls Tryd.prog 19 #[.string s, .string sep] w fun e w' =>
      e = .returned (.slice (some ⟨w.heap.size, 0, none⟩) (Lib.countB s sep + 1) (Lib.countB s sep + 1)) ∧ w' = w.alloc (.cells ((Lib.splitB sep 0 (Lib.countB s sep) s).map Value.string).toArray 9) := Any.strings_Split_shaped Tryd.laysM146 s sep w h hs h1
def Tryd.lays197_ren : Go.Shelf.Ren := ⟨fun | 197 => 31 | 260 => 34 | n => n, fun | 9 => 9 | 21 => 21 | 3 => 3 | 4 => 4 | 5 => 5 | 105 => 51 | 119 => 55 | 0 => 0 | 46 => 45 | 139 => 58 | 138 => 57 | n => n, fun | 3 => 3 | 4 => 4 | n => n⟩
theorem Tryd.lays197 : Go.Proofs.Lays.n197 Tryd.prog Tryd.lays197_ren := {
  mixed := by kernel_rfl
  f197 := Tryd.func31.trans (congrArg some (by kernel_rfl))
  f260 := Tryd.func34.trans (congrArg some (by kernel_rfl))
  t0 := Tryd.underlying0
  a0 := Tryd.isAgg0
  z0 := Tryd.sizeOf0
  v0 := Tryd.zeroValue0
  t3 := Tryd.underlying3
  a3 := Tryd.isAgg3
  z3 := Tryd.sizeOf3
  v3 := Tryd.zeroValue3
  t4 := Tryd.underlying4
  a4 := Tryd.isAgg4
  z4 := Tryd.sizeOf4
  v4 := Tryd.zeroValue4
  t5 := Tryd.underlying5
  a5 := Tryd.isAgg5
  z5 := Tryd.sizeOf5
  v5 := Tryd.zeroValue5
  t9 := Tryd.underlying9
  a9 := Tryd.isAgg9
  z9 := Tryd.sizeOf9
  v9 := Tryd.zeroValue9
  t21 := Tryd.underlying21
  a21 := Tryd.isAgg21
  z21 := Tryd.sizeOf21
  v21 := Tryd.zeroValue21
  t46 := Tryd.underlying45
  a46 := Tryd.isAgg45
  z46 := Tryd.sizeOf45
  v46 := Tryd.zeroValue45
  t105 := Tryd.underlying51
  a105 := Tryd.isAgg51
  z105 := Tryd.sizeOf51
  v105 := Tryd.zeroValue51
  t119 := Tryd.underlying55
  a119 := Tryd.isAgg55
  z119 := Tryd.sizeOf55
  t138 := Tryd.underlying57
  a138 := Tryd.isAgg57
  z138 := Tryd.sizeOf57
  v138 := Tryd.zeroValue57
  t139 := Tryd.underlying58
  a139 := Tryd.isAgg58
  z139 := Tryd.sizeOf58
  v139 := Tryd.zeroValue58
  g3 := by kernel_rfl
  g4 := by kernel_rfl }
open Go.RowKit Go.Lib in
/-- unicode/utf8.DecodeRuneInString: "DecodeRuneInString is like DecodeRune but its input is a string.": ("DecodeRune unpacks the first UTF-8 encoding in p and returns the rune and its width in bytes."): WHERE s BEGINS WITH AN ASCII BYTE x: (x, 1). (LAID: no walk: one application.) -/
theorem Tryd.utf8_DecodeRuneInString_ascii (s : ByteArray) (x : UInt8) (w : World) (h0 : s.data.toList[0]? = some x) (hx : x.toNat < 128) :
    Calls Tryd.prog 31 #[.string s] w fun e w' => e = .returned (.tuple #[.int .i32 x.toNat, .int .i64 1]) ∧ w' = w := Any.utf8_DecodeRuneInString_ascii Tryd.lays197 s x w h0 hx
open Go.RowKit Go.Lib in
theorem Tryd.utf8_RuneCountInString_ascii (s : ByteArray) (w : World) (hs : s.size < 4294967281) (hascii : ∀ (j : Nat) b, s.data.toList[j]? = some b → b.toNat < 128) :
    Calls Tryd.prog 30 #[.string s] w fun e w' => e = .returned (.int .i64 s.size) ∧ w' = w.iter s s.size := Any.utf8_RuneCountInString_ascii Tryd.lays195 s w hs hascii
def Tryd.lays268_ren : Go.Shelf.Ren := ⟨fun | 268 => 27 | 195 => 30 | 197 => 31 | 260 => 34 | n => n, fun | 9 => 9 | 3 => 3 | 31 => 37 | 4 => 4 | 105 => 51 | 21 => 21 | 0 => 0 | 5 => 5 | 119 => 55 | 46 => 45 | 139 => 58 | 138 => 57 | n => n, fun | 3 => 3 | 4 => 4 | n => n⟩
theorem Tryd.lays268 : Go.Proofs.Lays.n268 Tryd.prog Tryd.lays268_ren := {
  mixed := by kernel_rfl
  f195 := Tryd.func30.trans (congrArg some (by kernel_rfl))
  f197 := Tryd.func31.trans (congrArg some (by kernel_rfl))
  f260 := Tryd.func34.trans (congrArg some (by kernel_rfl))
  f268 := Tryd.func27.trans (congrArg some (by kernel_rfl))
  t0 := Tryd.underlying0
  a0 := Tryd.isAgg0
  z0 := Tryd.sizeOf0
  v0 := Tryd.zeroValue0
  t3 := Tryd.underlying3
  a3 := Tryd.isAgg3
  z3 := Tryd.sizeOf3
  v3 := Tryd.zeroValue3
  t4 := Tryd.underlying4
  a4 := Tryd.isAgg4
  z4 := Tryd.sizeOf4
  v4 := Tryd.zeroValue4
  t5 := Tryd.underlying5
  a5 := Tryd.isAgg5
  z5 := Tryd.sizeOf5
  v5 := Tryd.zeroValue5
  t9 := Tryd.underlying9
  a9 := Tryd.isAgg9
  z9 := Tryd.sizeOf9
  v9 := Tryd.zeroValue9
  t21 := Tryd.underlying21
  a21 := Tryd.isAgg21
  z21 := Tryd.sizeOf21
  v21 := Tryd.zeroValue21
  t31 := Tryd.underlying37
  a31 := Tryd.isAgg37
  z31 := Tryd.sizeOf37
  v31 := Tryd.zeroValue37
  t46 := Tryd.underlying45
  a46 := Tryd.isAgg45
  z46 := Tryd.sizeOf45
  v46 := Tryd.zeroValue45
  t105 := Tryd.underlying51
  a105 := Tryd.isAgg51
  z105 := Tryd.sizeOf51
  v105 := Tryd.zeroValue51
  t119 := Tryd.underlying55
  a119 := Tryd.isAgg55
  z119 := Tryd.sizeOf55
  t138 := Tryd.underlying57
  a138 := Tryd.isAgg57
  z138 := Tryd.sizeOf57
  v138 := Tryd.zeroValue57
  t139 := Tryd.underlying58
  a139 := Tryd.isAgg58
  z139 := Tryd.sizeOf58
  v139 := Tryd.zeroValue58
  g3 := by kernel_rfl
  g4 := by kernel_rfl }
open Go.RowKit Go.Lib in
theorem Tryd.strings_explode_all (s : ByteArray) (n : Int) (w : World) (hn : n < 0) (hs : s.size < 4294967281) (hascii : ∀ (j : Nat) b, s.data.toList[j]? = some b → b.toNat < 128) :
    Calls Tryd.prog 27 #[.string s, .int .i64 n] w fun e w' =>
      e = .returned (.slice (some ⟨(w.iter s s.size).heap.size, 0, none⟩) s.size s.size) ∧ w' = (w.iter s s.size).alloc (.cells ((Lib.charsB s).map Value.string).toArray 9) := Any.strings_explode_all Tryd.lays268 (by kernel_rfl) s n w hn hs hascii
open Go.RowKit Go.Lib in
/-- strings.genSplit at sep == "", n < 0: 'return explode(s, n)'. (LAID: no walk: one application.) -/
theorem Tryd.strings_genSplit_chars (s sep : ByteArray) (sv n : Int) (w : World) (h0 : sep.size = 0) (hn : n < 0) (hs : s.size < 4294967281) (hascii : ∀ (j : Nat) b, s.data.toList[j]? = some b → b.toNat < 128) :
    Calls Tryd.prog 25 #[.string s, .string sep, .int .i64 sv, .int .i64 n] w fun e w' =>
      e = .returned (.slice (some ⟨(w.iter s s.size).heap.size, 0, none⟩) s.size s.size) ∧ w' = (w.iter s s.size).alloc (.cells ((Lib.charsB s).map Value.string).toArray 9) := Any.strings_genSplit_chars Tryd.lays221 (by kernel_rfl) s sep sv n w h0 hn hs hascii
open Go.RowKit Go.Lib in
/-- strings.Split(s, ""), s ASCII: a piece a byte. (LAID: no walk: one application.) -/
theorem Tryd.strings_Split_chars (s sep : ByteArray) (w : World) (h0 : sep.size = 0) (hs : s.size < 4294967281) (hascii : ∀ (j : Nat) b, s.data.toList[j]? = some b → b.toNat < 128) :
    Calls Tryd.prog 19 #[.string s, .string sep] w fun e w' =>
      e = .returned (.slice (some ⟨(w.iter s s.size).heap.size, 0, none⟩) s.size s.size) ∧ w' = (w.iter s s.size).alloc (.cells ((Lib.charsB s).map Value.string).toArray 9) := Any.strings_Split_chars Tryd.lays146 (by kernel_rfl) s sep w h0 hs hascii
def Tryd.lays260_ren : Go.Shelf.Ren := ⟨fun | 260 => 34 | n => n, fun | 9 => 9 | 21 => 21 | 3 => 3 | 4 => 4 | 5 => 5 | 119 => 55 | 0 => 0 | 46 => 45 | 139 => 58 | 138 => 57 | n => n, fun | 3 => 3 | 4 => 4 | n => n⟩
theorem Tryd.lays260 : Go.Proofs.Lays.n260 Tryd.prog Tryd.lays260_ren := {
  mixed := by kernel_rfl
  f260 := Tryd.func34.trans (congrArg some (by kernel_rfl))
  t0 := Tryd.underlying0
  a0 := Tryd.isAgg0
  z0 := Tryd.sizeOf0
  v0 := Tryd.zeroValue0
  t3 := Tryd.underlying3
  a3 := Tryd.isAgg3
  z3 := Tryd.sizeOf3
  v3 := Tryd.zeroValue3
  t4 := Tryd.underlying4
  a4 := Tryd.isAgg4
  z4 := Tryd.sizeOf4
  v4 := Tryd.zeroValue4
  t5 := Tryd.underlying5
  a5 := Tryd.isAgg5
  z5 := Tryd.sizeOf5
  v5 := Tryd.zeroValue5
  t9 := Tryd.underlying9
  a9 := Tryd.isAgg9
  z9 := Tryd.sizeOf9
  v9 := Tryd.zeroValue9
  t21 := Tryd.underlying21
  a21 := Tryd.isAgg21
  z21 := Tryd.sizeOf21
  v21 := Tryd.zeroValue21
  t46 := Tryd.underlying45
  a46 := Tryd.isAgg45
  z46 := Tryd.sizeOf45
  v46 := Tryd.zeroValue45
  t119 := Tryd.underlying55
  a119 := Tryd.isAgg55
  z119 := Tryd.sizeOf55
  t138 := Tryd.underlying57
  a138 := Tryd.isAgg57
  z138 := Tryd.sizeOf57
  v138 := Tryd.zeroValue57
  t139 := Tryd.underlying58
  a139 := Tryd.isAgg58
  z139 := Tryd.sizeOf58
  v139 := Tryd.zeroValue58
  g3 := by kernel_rfl
  g4 := by kernel_rfl }
open Go.RowKit Go.Lib in
theorem Tryd.utf8_decodeRuneInStringSlow (s : ByteArray) (w : World) (hT : Lib.Utf8Tabs 3 4 w) :
    Calls Tryd.prog 34 #[.string s] w fun e w' => e = .returned (.tuple #[.int .i32 (Lib.decodeGo s).1, .int .i64 (Lib.decodeGo s).2]) ∧ Below w.heap.size w w' := Any.utf8_decodeRuneInStringSlow Tryd.lays260 s w hT
open Go.RowKit Go.Lib in
/-- **unicode/utf8.DecodeRuneInString AT EVERY STRING.** (LAID: no walk: one application.) -/
theorem Tryd.utf8_DecodeRuneInString (s : ByteArray) (w : World) (hT : Lib.Utf8Tabs 3 4 w) :
    Calls Tryd.prog 31 #[.string s] w fun e w' => e = .returned (.tuple #[.int .i32 (Lib.decodeGo s).1, .int .i64 (Lib.decodeGo s).2]) ∧ Below w.heap.size w w' := Any.utf8_DecodeRuneInString Tryd.lays197 s w hT
end Go.Proofs

/- strings.Clone: the same bytes. -/
set_option linter.unusedVariables false
set_option linter.unusedSimpArgs false
namespace Go.Proofs.YteeahhklbgnepaaDoor
open Go.RowKit

theorem Clone_any (l : List UInt8) (w : World) (hl : l.length ≤ 100000000) :
    Calls Tryd.prog 18 #[.string ⟨l.toArray⟩] w fun e w' => e = .returned (.string ⟨l.toArray⟩) ∧ Below w.heap.size w w' := by
  go_enter Tryd.func18, Tryd.ntmps18
  go_wp2_with fail
  refine (Tryd.stringslite_Clone _ _ (by simp [ByteArray.size]; omega)).mono ?_
  rintro e w' ⟨rfl, hB⟩
  go_wp2
  go_ret
  exact ⟨rfl, hB⟩
end Go.Proofs.YteeahhklbgnepaaDoor

/- Walks: the table in memory; errs.Message, errs.Find. -/
set_option linter.unusedVariables false
set_option linter.unusedSimpArgs false
namespace Go.Proofs.YteeahhklbgnepaaDoor
open Go.RowKit

/-- The table of the messages lies in memory. -/
def Laid (w : World) : Prop := 1 < w.heap.size ∧ ∀ i, i < 14 → w.cell? ⟨1, i, none⟩ = some (.string ⟨(msgAt i).toArray⟩)
theorem Laid.below {w w' : World} {n : Nat} (h : Laid w) (hb : Below n w w') (hn : 1 < n) : Laid w' :=
  ⟨Nat.lt_of_lt_of_le h.1 hb.size, fun i hi => (hb.cell (p := ⟨1, i, none⟩) hn).trans (h.2 i hi)⟩
theorem Laid.next {w w' : World} (h : Laid w) (hb : Below w.heap.size w w') : Laid w' := h.below hb h.1

theorem Message_any (e : Int) (w : World) (hL : Laid w) :
    Calls Tryd.prog 21 #[.int .i64 e] w fun r w' => r = .returned (.string ⟨(msgOf e).toArray⟩) ∧ Below w.heap.size w w' := by
  by_cases h0 : e < 0
  · rw [msgOf_no (Or.inl h0)]
    clear hL
    go_enter Tryd.func21, Tryd.ntmps21
    go_wp2_with fail
    refine (Clone_any unknownM _ (by decide)).mono ?_
    rintro e w' ⟨rfl, hB⟩
    go_wp2
    go_ret
    exact ⟨rfl, hB⟩
  · by_cases h1 : 13 < e
    · rw [msgOf_no (Or.inr h1)]
      clear hL
      go_enter Tryd.func21, Tryd.ntmps21
      go_wp2_with fail
      refine (Clone_any unknownM _ (by decide)).mono ?_
      rintro e w' ⟨rfl, hB⟩
      go_wp2
      go_ret
      exact ⟨rfl, hB⟩
    · obtain ⟨k, rfl⟩ : ∃ k : Nat, e = k := ⟨e.toNat, by omega⟩
      have hk : k < 14 := by omega
      have c := hL.2 k hk
      have hs := msgAt_small k hk
      rw [msgOf_nat k hk]
      clear hL
      go_enter Tryd.func21, Tryd.ntmps21
      go_wp2_with fail
      refine (Clone_any _ _ (by omega)).mono ?_
      rintro e w' ⟨rfl, hB⟩
      go_wp2
      go_ret
      exact ⟨rfl, hB⟩

/-- The table as one value. -/
def tabV : Value := .agg #[.string ⟨(msgAt 0).toArray⟩, .string ⟨(msgAt 1).toArray⟩, .string ⟨(msgAt 2).toArray⟩, .string ⟨(msgAt 3).toArray⟩, .string ⟨(msgAt 4).toArray⟩, .string ⟨(msgAt 5).toArray⟩, .string ⟨(msgAt 6).toArray⟩, .string ⟨(msgAt 7).toArray⟩, .string ⟨(msgAt 8).toArray⟩, .string ⟨(msgAt 9).toArray⟩, .string ⟨(msgAt 10).toArray⟩, .string ⟨(msgAt 11).toArray⟩, .string ⟨(msgAt 12).toArray⟩, .string ⟨(msgAt 13).toArray⟩]

end Go.Proofs.YteeahhklbgnepaaDoor

/- Slices of texts: one that came in, one of the call's own. -/
set_option linter.unusedVariables false
set_option linter.unusedSimpArgs false
namespace Go.Proofs.YteeahhklbgnepaaDoor
open Go.RowKit

def strsV (ws : List (List UInt8)) : List Value := ws.map fun l => .string ⟨l.toArray⟩

/-- A slice that reads as these texts. -/
def Strs (w : World) (v : Value) (l : List (List UInt8)) : Prop :=
  ∃ a cap, v = .slice a l.length cap ∧ l.length ≤ maxLen ∧ (0 < l.length → ∃ b off, a = some ⟨b, off, none⟩ ∧ b < w.heap.size ∧ ∀ i (h : i < l.length), w.cell? ⟨b, off + i, none⟩ = some (.string ⟨l[i].toArray⟩))

theorem Strs.below {w w' : World} {v : Value} {l : List (List UInt8)} (h : Strs w v l) (hb : Below w.heap.size w w') : Strs w' v l := by
  obtain ⟨a, cap, rfl, hm, h1⟩ := h
  refine ⟨a, cap, rfl, hm, fun hl => ?_⟩
  obtain ⟨b, off, rfl, hlt, hc⟩ := h1 hl
  exact ⟨b, off, rfl, Nat.lt_of_lt_of_le hlt hb.size, fun i hi => (hb.cell (p := ⟨b, off + i, none⟩) hlt).trans (hc i hi)⟩

theorem Strs.nil_ (w : World) : Strs w (.slice none 0 0) [] := ⟨none, 0, rfl, Nat.zero_le _, fun h => absurd h (by simp)⟩

theorem own_strs {w : World} {base : Nat} {e : TypeId} {v : Value} {n : Nat} {l : List (List UInt8)} (h : w.ownsRow base e 1 v n (strsV l)) : Strs w v l := by
  have hlen := h.1
  simp [strsV] at hlen
  subst hlen
  rcases h.2 with ⟨rfl, h0⟩ | ⟨g, cap, cur, rfl, hg, hh, hnc, hcm, hsz, htk⟩
  · have : l = [] := List.eq_nil_of_length_eq_zero h0
    subst this
    exact ⟨none, 0, rfl, Nat.zero_le _, fun h => absurd h (by simp)⟩
  · refine ⟨_, cap, rfl, by omega, fun _ => ⟨g, 0, rfl, ?_, fun i hi => ?_⟩⟩
    · exact (h.lt g rfl).2
    · have hc := World.ownsRow.cells h (g := g) rfl i (.string ⟨l[i].toArray⟩) (by simp [strsV, List.getElem?_eq_getElem hi])
      rw [Addr.add_lit] at hc
      exact hc

/-- Texts in a block that was just made for them. -/
theorem new_strs (w : World) (t : TypeId) (C : Array Value) (l : List (List UInt8)) (n cap : Nat) (hC : C = (strsV l).toArray) (hn : n = l.length) (hm : l.length ≤ maxLen) : Strs (w.alloc (.cells C t)) (.slice (some ⟨w.heap.size, 0, none⟩) n cap) l := by
  subst hC hn
  refine ⟨_, cap, rfl, hm, fun _ => ⟨w.heap.size, 0, rfl, by simp, fun i hi => ?_⟩⟩
  have := cells_block w (strsV l).toArray t i (.string ⟨l[i].toArray⟩) (by simp [strsV, List.getElem?_eq_getElem hi])
  rw [Addr.add_lit] at this
  exact this

theorem bytesV_str (l : List UInt8) : Lib.strCells ⟨l.toArray⟩ = bytesV l := by simp [Lib.strCells, bytesV]
end Go.Proofs.YteeahhklbgnepaaDoor

/- The document's Few: few texts, none of them long. -/
set_option linter.unusedVariables false
set_option linter.unusedSimpArgs false
namespace Go.Proofs.YteeahhklbgnepaaDoor
open Go.RowKit
def fewB (l : List (List UInt8)) : Bool := (l.take 100).all (fun s => decide (s.length ≤ 300)) && decide (l.length ≤ 40)
theorem fewB_no {l : List (List UInt8)} {k : Nat} (h : k < l.length) (h1 : k < 100) (h2 : 300 < l[k].length) : fewB l = false := by
  rw [Bool.eq_false_iff]
  intro hb
  simp only [fewB, Bool.and_eq_true, List.all_eq_true] at hb
  have hk : k < (l.take 100).length := by simp; omega
  have := hb.1 (l.take 100)[k] (List.getElem_mem hk)
  simp at this
  omega
theorem fewB_yes {l : List (List UInt8)} {k : Nat} (h : ∀ j (hj : j < l.length), j < k → l[j].length ≤ 300) (h2 : ¬ (k < l.length ∧ k < 100)) : fewB l = decide (l.length ≤ 40) := by
  unfold fewB
  have : (l.take 100).all (fun s => decide (s.length ≤ 300)) = true := by
    rw [List.all_eq_true]
    intro s hs
    obtain ⟨j, hj, rfl⟩ := List.getElem_of_mem hs
    have hj2 : j < l.length ∧ j < 100 := by simp at hj; omega
    have := h j hj2.1 (by omega)
    simpa using this
  rw [this]; simp
theorem fewB_small {l : List (List UInt8)} (h : fewB l = true) : l.length ≤ 40 ∧ ∀ x ∈ l, x.length ≤ 300 := by
  simp only [fewB, Bool.and_eq_true, List.all_eq_true, decide_eq_true_eq] at h
  refine ⟨h.2, fun x hx => ?_⟩
  rw [List.take_of_length_le (by omega)] at h
  exact h.1 x hx
end Go.Proofs.YteeahhklbgnepaaDoor

/- Walks: errs.Line, the document's Message and Line, awake. -/
set_option linter.unusedVariables false
set_option linter.unusedSimpArgs false
namespace Go.Proofs.YteeahhklbgnepaaDoor
open Go.RowKit

theorem Tryd.info8 : (Tryd.prog.info? 5).map (fun i => (i.zero, i.size, i.bytes)) = some (some (.int .u8 0), 1, 1) := by kernel_rfl

set_option maxHeartbeats 800000 in
theorem Line_any (l : List (List UInt8)) (v : Value) (w : World) (hv : Strs w v l) (hl : l.length ≤ 1000001) (hj : (lineB l).length ≤ 1000000) :
    Calls Tryd.prog 12 #[v] w fun e w' => e = .returned (.string ⟨(lineB l).toArray⟩) ∧ Below w.heap.size w w' := by
  obtain ⟨a, ca, rfl, hm, HA0⟩ := hv
  have HA := Lib.hid HA0
  clear HA0 hm
  obtain ⟨i0, hi, hz0, hz1, hz2⟩ := info_parts Tryd.info8
  go_enter Tryd.func12, Tryd.ntmps12
  go_wp2
  go_loopw [3, 8] (fun s i wr => ∃ k : Nat, k ≤ l.length ∧ i = .int .i64 k ∧ wr.ownsRow w.heap.size 5 1 s (lineB (l.take k)).length (bytesV (lineB (l.take k))) ∧ Below w.heap.size w wr) (fun _ i _ => l.length - (intOf i).toNat)
  case atStart => exact ⟨0, Nat.zero_le _, rfl, World.ownsRow_nil _ _ _ _, Below.refl _ _⟩
  case round =>
    obtain ⟨k, hk, rfl, hown, hb⟩ := hrel
    by_cases hlt : k < l.length
    · obtain ⟨ba, oa, rfl, hba, hca⟩ := HA.out (by omega)
      have c1 : wr.cell? ⟨ba, oa + k, none⟩ = some (.string ⟨l[k].toArray⟩) := (hb.cell (p := ⟨ba, oa + k, none⟩) hba).trans (hca k hlt)
      clear hca
      have hjt := Lib.hid (lineB_take l k hlt)
      have hj1 := lineB_take_le l (l.length - (k + 1)) (k + 1) (by omega)
      by_cases h0 : k = 0
      · subst h0
        have hsz : l[0].length ≤ 1000000 := by rw [hjt.out, if_pos rfl] at hj1; omega
        clear hj1
        simp only [List.take_zero] at hown
        have hown' : wr.ownsRow w.heap.size 5 1 u3 0 [] := by simpa [lineB, bytesV] using hown
        clear hown
        simp only [Nat.add_zero] at c1
        go_wp2_with (at_builtin; (refine Lib.wpList_append_own_string _ rfl (.tmp 17) (.tmp 18) 38 9 rfl w.heap.size 5 i0 Tryd.underlying38 Tryd.underlying9 hi hz0 hz1 hz2 _ _ _ rfl hown' _ rfl (by simp [ByteArray.size, maxLen]; omega) (by simp [ByteArray.size]; omega) hb.size ?_); intro v3 w3 hown3 hg3 _)
        have hb3 := own_below hown' hg3 hb.size
        go_roundw
        case rel => exact ⟨1, by omega, rfl, by rw [hjt.out, if_pos rfl]; simpa [bytesV_str, ByteArray.size] using hown3, hb.trans hb3⟩
        case measure => simp [intOf]; omega
      · have hk0 : (0 : Int) < (k : Int) := by omega
        have hsz : (lineB (l.take k)).length + l[k].length + 2 ≤ 1000000 := by rw [hjt.out, if_neg h0] at hj1; simp at hj1; omega
        clear hj1
        have e3 : (lineB (l.take k)).length + (ByteArray.mk #[58, 32]).size = (lineB (l.take k)).length + 2 := rfl
        go_wp2_with (first | (at_builtin; (refine Lib.wpList_append_own_string _ rfl (.tmp 15) (.const (.string ⟨#[58, 32]⟩)) 38 9 rfl w.heap.size 5 i0 Tryd.underlying38 Tryd.underlying9 hi hz0 hz1 hz2 _ _ _ rfl hown _ rfl (by simp [ByteArray.size, maxLen]; omega) (by simp [ByteArray.size]; omega) hb.size ?_); intro v3 w3 hown3 hg3 _) | (at_builtin; (refine Lib.wpList_append_own_string _ rfl (.tmp 17) (.tmp 18) 38 9 rfl w.heap.size 5 i0 Tryd.underlying38 Tryd.underlying9 hi hz0 hz1 hz2 _ _ _ rfl hown3 _ rfl (by simp [ByteArray.size, maxLen]; omega) (by simp [ByteArray.size]; omega) (hb.trans (own_below hown hg3 hb.size)).size ?_); intro v4 w4 hown4 hg4 _))
        have hb3 := own_below hown hg3 hb.size
        have hb4 := own_below hown3 hg4 (hb.trans hb3).size
        go_roundw
        case rel => exact ⟨k + 1, by omega, by go_num, by (rw [hjt.out, if_neg h0]; have e : (lineB (l.take k) ++ [58, 32] ++ l[k]).length = (lineB (l.take k)).length + 2 + l[k].length := by (simp; omega)); rw [e]; simpa [bytesV, bytesV_str, ByteArray.size, Lib.strCells] using hown4, (hb.trans hb3).trans hb4⟩
        case measure => simp [intOf]; omega
    · obtain rfl : k = l.length := by omega
      rw [List.take_length] at hown
      have hcv := run_own_string (P := Tryd.prog) (l := lineB l) 38 9 Tryd.underlying38 Tryd.underlying5 Tryd.underlying9 hown
      go_wp2
      go_ret
      exact ⟨rfl, hb⟩

attribute [go_sem] ByteArray.mk_append_mk

theorem refMessage_any (e : Int) (w : World) :
    Calls Tryd.prog 17 #[.int .i64 e] w fun r w' => r = .returned (.string ⟨(msgOf e).toArray⟩) ∧ w = w' := by
  by_cases h : 0 ≤ e ∧ e ≤ 13
  · obtain ⟨k, rfl⟩ : ∃ k : Nat, e = k := ⟨e.toNat, by omega⟩
    have hc : k = 0 ∨ k = 1 ∨ k = 2 ∨ k = 3 ∨ k = 4 ∨ k = 5 ∨ k = 6 ∨ k = 7 ∨ k = 8 ∨ k = 9 ∨ k = 10 ∨ k = 11 ∨ k = 12 ∨ k = 13 := by omega
    clear h
    rcases hc with rfl | rfl | rfl | rfl | rfl | rfl | rfl | rfl | rfl | rfl | rfl | rfl | rfl | rfl <;>
      (go_enter Tryd.func17, Tryd.ntmps17; go_wp2; go_ret; exact ⟨rfl, rfl⟩)
  · rw [msgOf_no (by omega)]
    have n0 : e ≠ 0 := by omega
    have n1 : e ≠ 1 := by omega
    have n2 : e ≠ 2 := by omega
    have n3 : e ≠ 3 := by omega
    have n4 : e ≠ 4 := by omega
    have n5 : e ≠ 5 := by omega
    have n6 : e ≠ 6 := by omega
    have n7 : e ≠ 7 := by omega
    have n8 : e ≠ 8 := by omega
    have n9 : e ≠ 9 := by omega
    have n10 : e ≠ 10 := by omega
    have n11 : e ≠ 11 := by omega
    have n12 : e ≠ 12 := by omega
    have n13 : e ≠ 13 := by omega
    clear h
    go_enter Tryd.func17, Tryd.ntmps17
    go_wp2
    go_ret
    exact ⟨rfl, rfl⟩
end Go.Proofs.YteeahhklbgnepaaDoor

/- Walks: the document's phrases and lines. -/
set_option linter.unusedVariables false
set_option linter.unusedSimpArgs false
namespace Go.Proofs.YteeahhklbgnepaaDoor
open Go.RowKit

set_option maxHeartbeats 4000000 in
theorem refsay_any (what : Int) (a b m : List UInt8) (w : World) (ha : a.length ≤ 1000000) (hb : b.length ≤ 1000000) (hm : m.length ≤ 1000000) :
    Calls Tryd.prog 15 #[.int .i64 what, .string ⟨a.toArray⟩, .string ⟨b.toArray⟩, .string ⟨m.toArray⟩] w fun e w' => e = .returned (.string ⟨(sayL what a b m).toArray⟩) ∧ w = w' := by
  by_cases h : 1 ≤ what ∧ what ≤ 22
  · rcases say_cases h with rfl | rfl | rfl | rfl | rfl | rfl | rfl | rfl | rfl | rfl | rfl | rfl | rfl | rfl | rfl | rfl | rfl | rfl | rfl | rfl | rfl | rfl
    all_goals clear h
    all_goals go_enter Tryd.func15, Tryd.ntmps15
    all_goals go_wp2
    all_goals go_ret
    all_goals exact ⟨by simp [sayL], rfl⟩
  · have HN := Lib.hid (say_none h a b m)
    have h1 : ∀ j : Int, 1 ≤ j → j ≤ 22 → (what == j) = false := fun j h1 h2 => by
      rw [beq_eq_false_iff_ne]; intro e; exact h ⟨by omega, by omega⟩
    have c1 := h1 1 (by decide) (by decide)
    have c2 := h1 2 (by decide) (by decide)
    have c3 := h1 3 (by decide) (by decide)
    have c4 := h1 4 (by decide) (by decide)
    have c5 := h1 5 (by decide) (by decide)
    have c6 := h1 6 (by decide) (by decide)
    have c7 := h1 7 (by decide) (by decide)
    have c8 := h1 8 (by decide) (by decide)
    have c9 := h1 9 (by decide) (by decide)
    have c10 := h1 10 (by decide) (by decide)
    have c11 := h1 11 (by decide) (by decide)
    have c12 := h1 12 (by decide) (by decide)
    have c13 := h1 13 (by decide) (by decide)
    have c14 := h1 14 (by decide) (by decide)
    have c15 := h1 15 (by decide) (by decide)
    have c16 := h1 16 (by decide) (by decide)
    have c17 := h1 17 (by decide) (by decide)
    have c18 := h1 18 (by decide) (by decide)
    have c19 := h1 19 (by decide) (by decide)
    have c20 := h1 20 (by decide) (by decide)
    have c21 := h1 21 (by decide) (by decide)
    have c22 := h1 22 (by decide) (by decide)
    clear h h1
    go_enter Tryd.func15, Tryd.ntmps15
    go_wp2
    go_ret
    exact ⟨by rw [HN.out]; rfl, rfl⟩

theorem say_len (what : Int) (a b m : List UInt8) : (sayL what a b m).length ≤ a.length + b.length + m.length + 200 := by
  by_cases h : 1 ≤ what ∧ what ≤ 22
  · rcases say_cases h with rfl | rfl | rfl | rfl | rfl | rfl | rfl | rfl | rfl | rfl | rfl | rfl | rfl | rfl | rfl | rfl | rfl | rfl | rfl | rfl | rfl | rfl
    all_goals simp [sayL]
    all_goals omega
  · rw [say_none h]; simp
theorem nameK_len (k : Int) : (nameK k).length ≤ 5 := by
  unfold nameK
  repeat' split
  all_goals decide

theorem refPhrase_any (what : Int) (w : World) :
    Calls Tryd.prog 10 #[.int .i64 what] w fun e w' => e = .returned (.string ⟨(phraseL what).toArray⟩) ∧ w = w' := by
  go_enter Tryd.func10, Tryd.ntmps10
  go_wp2_with fail
  refine (refsay_any what [65] [66] [69] _ (by decide) (by decide) (by decide)).mono ?_
  rintro e w2 ⟨rfl, rfl⟩
  go_wp2
  go_ret
  exact ⟨rfl, rfl⟩

set_option maxHeartbeats 2000000 in
theorem refTell_any (kind what : Int) (a b : List UInt8) (e : Int) (w : World) (ha : a.length ≤ 1000) (hb : b.length ≤ 1000) :
    Calls Tryd.prog 8 #[.int .i64 kind, .int .i64 what, .string ⟨a.toArray⟩, .string ⟨b.toArray⟩, .int .i64 e] w fun r w' => r = .returned (.string ⟨(tellL kind what a b (msgOf e)).toArray⟩) ∧ Below w.heap.size w w' := by
  have hqa := quoteB_len a
  have hqb := quoteB_len b
  have hms := msgOf_small e
  have hnl := nameK_len kind
  have hsl := say_len what (quoteB a) (quoteB b) (msgOf e)
  have hNm := refName_any kind w
  have hSy := fun W => refsay_any what (quoteB a) (quoteB b) (msgOf e) W (by omega) (by omega) (by omega)
  have hT : tellL kind what a b (msgOf e) = if nameK kind = [] ∨ sayL what (quoteB a) (quoteB b) (msgOf e) = [] then [] else nameK kind ++ [58, 32] ++ sayL what (quoteB a) (quoteB b) (msgOf e) := rfl
  generalize tellL kind what a b (msgOf e) = T at *
  generalize nameK kind = N at *
  generalize sayL what (quoteB a) (quoteB b) (msgOf e) = S at *
  have HT := Lib.hid hT
  clear hT
  have key : ∀ x : World, Below w.heap.size w x → True := fun _ _ => trivial
  clear key
  go_enter Tryd.func8, Tryd.ntmps8
  go_wp2_with fail
  refine hNm.mono ?_
  rintro r w1 ⟨rfl, b1⟩
  clear hNm
  go_wp2_with fail
  refine (refQuoteK_any a _ (by omega)).mono ?_
  rintro r w2 ⟨rfl, b2⟩
  replace b2 := b1.trans (b2.mono b1.size)
  clear b1
  go_wp2_with fail
  refine (refQuoteK_any b _ (by omega)).mono ?_
  rintro r w3 ⟨rfl, b3⟩
  replace b3 := b2.trans (b3.mono b2.size)
  clear b2
  go_wp2_with fail
  refine (refMessage_any e _).mono ?_
  rintro r w4 ⟨rfl, hw4⟩
  subst hw4
  go_wp2_with fail
  refine (hSy _).mono ?_
  rintro r w5 ⟨rfl, hw5⟩
  subst hw5
  clear hSy
  by_cases h1 : N = []
  · have HN : Hid (T = []) := by show _ = _; rw [HT.out, if_pos (.inl h1)]
    subst h1
    go_wp2
    go_ret
    exact ⟨by rw [HN.out]; rfl, b3⟩
  have h1b : (N == []) = false := by simpa using h1
  by_cases h2 : S = []
  · have HN : Hid (T = []) := by show _ = _; rw [HT.out, if_pos (.inr h2)]
    subst h2
    clear h1
    go_wp2
    go_ret
    exact ⟨by rw [HN.out]; rfl, b3⟩
  have h2b : (S == []) = false := by simpa using h2
  have HN : Hid (T = N ++ [58, 32] ++ S) := by show _ = _; rw [HT.out, if_neg (fun c => c.elim h1 h2)]
  clear h1 h2
  go_wp2
  go_ret
  exact ⟨by rw [HN.out]; simp, b3⟩
end Go.Proofs.YteeahhklbgnepaaDoor

/- The words of the phrases, and what they are with operands in their signs' places (printed by tools/say18c.py); texts joined by blanks. No program's function. -/
set_option linter.unusedVariables false
set_option linter.unusedSimpArgs false
namespace Go.Proofs.YteeahhklbgnepaaDoor

def joinP : List (List UInt8) → List UInt8
  | [] => []
  | [x] => x
  | x :: y :: t => x ++ 32 :: joinP (y :: t)
theorem joinP_snoc : ∀ (l : List (List UInt8)) (x : List UInt8), l ≠ [] → joinP (l ++ [x]) = joinP l ++ 32 :: x
  | [], _, h => absurd rfl h
  | [y], x, _ => rfl
  | y :: z :: t, x, _ => by
    have := joinP_snoc (z :: t) x (by simp)
    simp only [List.cons_append] at this
    simp only [List.cons_append, joinP, this, List.append_assoc]
theorem joinP_take (l : List (List UInt8)) (k : Nat) (h : k < l.length) : joinP (l.take (k + 1)) = if k = 0 then l[k] else joinP (l.take k) ++ 32 :: l[k] := by
  rw [List.take_succ_eq_append_getElem h]
  split
  · rename_i h0; subst h0; rfl
  · rename_i h0
    refine joinP_snoc _ _ ?_
    intro e
    have := congrArg List.length e
    simp at this
    rcases this with h1 | h1
    · exact h0 h1
    · rw [h1] at h; exact absurd h (by simp)
theorem joinP_take_le (l : List (List UInt8)) : ∀ (d k : Nat), k + d = l.length → (joinP (l.take k)).length ≤ (joinP l).length
  | 0, k, h => by rw [List.take_of_length_le (by omega)]; exact Nat.le_refl _
  | d + 1, k, h => by
    refine Nat.le_trans ?_ (joinP_take_le l d (k + 1) (by omega))
    rw [joinP_take l k (by omega)]
    split
    · rename_i h0; subst h0; simp [joinP]
    · simp

/-- A word with its sign's text. -/
def fillW (a b m : List UInt8) : List UInt8 → List UInt8
  | [] => []
  | c :: r => if c = 65 then a ++ r else if c = 66 then b ++ r else if c = 69 then m ++ r else c :: r
/-- The words of a phrase. -/
def wordsP (what : Int) : List (List UInt8) :=
  if what = 1 then [[99, 97, 110, 110, 111, 116], [99, 114, 101, 97, 116, 101], [100, 105, 114, 101, 99, 116, 111, 114, 121], [65, 58], [69]]
  else if what = 2 then [[99, 97, 110, 110, 111, 116], [114, 101, 109, 111, 118, 101], [65, 58], [69]]
  else if what = 3 then [[114, 101, 102, 117, 115, 105, 110, 103], [116, 111], [114, 101, 109, 111, 118, 101], [34, 46, 34], [111, 114], [34, 46, 46, 34], [100, 105, 114, 101, 99, 116, 111, 114, 121, 58], [115, 107, 105, 112, 112, 105, 110, 103], [65]]
  else if what = 4 then [[105, 116], [105, 115], [100, 97, 110, 103, 101, 114, 111, 117, 115], [116, 111], [111, 112, 101, 114, 97, 116, 101], [114, 101, 99, 117, 114, 115, 105, 118, 101, 108, 121], [111, 110], [65]]
  else if what = 5 then [[102, 97, 105, 108, 101, 100], [116, 111], [97, 99, 99, 101, 115, 115], [65, 58], [69]]
  else if what = 6 then [[65, 58], [104, 97, 114, 100], [108, 105, 110, 107], [110, 111, 116], [97, 108, 108, 111, 119, 101, 100], [102, 111, 114], [100, 105, 114, 101, 99, 116, 111, 114, 121]]
  else if what = 7 then [[102, 97, 105, 108, 101, 100], [116, 111], [99, 114, 101, 97, 116, 101], [104, 97, 114, 100], [108, 105, 110, 107], [66, 58], [69]]
  else if what = 8 then [[102, 97, 105, 108, 101, 100], [116, 111], [99, 114, 101, 97, 116, 101], [115, 121, 109, 98, 111, 108, 105, 99], [108, 105, 110, 107], [66, 58], [69]]
  else if what = 9 then [[65], [97, 110, 100], [66], [97, 114, 101], [116, 104, 101], [115, 97, 109, 101], [102, 105, 108, 101]]
  else if what = 10 then [[116, 97, 114, 103, 101, 116], [65], [105, 115], [110, 111, 116], [97], [100, 105, 114, 101, 99, 116, 111, 114, 121]]
  else if what = 11 then [[99, 97, 110, 110, 111, 116], [115, 116, 97, 116], [65, 58], [69]]
  else if what = 12 then [[99, 97, 110, 110, 111, 116], [111, 118, 101, 114, 119, 114, 105, 116, 101], [110, 111, 110, 45, 100, 105, 114, 101, 99, 116, 111, 114, 121], [66], [119, 105, 116, 104], [100, 105, 114, 101, 99, 116, 111, 114, 121], [65]]
  else if what = 13 then [[99, 97, 110, 110, 111, 116], [111, 118, 101, 114, 119, 114, 105, 116, 101], [100, 105, 114, 101, 99, 116, 111, 114, 121], [66], [119, 105, 116, 104], [110, 111, 110, 45, 100, 105, 114, 101, 99, 116, 111, 114, 121], [65]]
  else if what = 14 then [[99, 97, 110, 110, 111, 116], [109, 111, 118, 101], [65], [116, 111], [97], [115, 117, 98, 100, 105, 114, 101, 99, 116, 111, 114, 121], [111, 102], [105, 116, 115, 101, 108, 102, 44], [66]]
  else if what = 15 then [[99, 97, 110, 110, 111, 116], [109, 111, 118, 101], [65], [116, 111], [66, 58], [69]]
  else if what = 16 then [[45, 114], [110, 111, 116], [115, 112, 101, 99, 105, 102, 105, 101, 100, 59], [111, 109, 105, 116, 116, 105, 110, 103], [100, 105, 114, 101, 99, 116, 111, 114, 121], [65]]
  else if what = 17 then [[99, 97, 110, 110, 111, 116], [99, 114, 101, 97, 116, 101], [114, 101, 103, 117, 108, 97, 114], [102, 105, 108, 101], [66, 58], [69]]
  else if what = 18 then [[99, 97, 110, 110, 111, 116], [99, 114, 101, 97, 116, 101], [115, 121, 109, 98, 111, 108, 105, 99], [108, 105, 110, 107], [66, 58], [69]]
  else if what = 19 then [[99, 97, 110, 110, 111, 116], [99, 111, 112, 121], [97], [100, 105, 114, 101, 99, 116, 111, 114, 121, 44], [65, 44], [105, 110, 116, 111], [105, 116, 115, 101, 108, 102, 44], [66]]
  else if what = 20 then [[110, 111, 116], [119, 114, 105, 116, 105, 110, 103], [116, 104, 114, 111, 117, 103, 104], [100, 97, 110, 103, 108, 105, 110, 103], [115, 121, 109, 108, 105, 110, 107], [66]]
  else if what = 21 then [[101, 114, 114, 111, 114], [119, 114, 105, 116, 105, 110, 103], [66, 58], [69]]
  else if what = 22 then [[99, 97, 110, 110, 111, 116], [99, 114, 101, 97, 116, 101], [100, 105, 114, 101, 99, 116, 111, 114, 121], [66, 58], [69]]
  else []
theorem fill_say {what : Int} (h : 1 ≤ what ∧ what ≤ 22) (a b m : List UInt8) : joinP ((wordsP what).map (fillW a b m)) = sayL what a b m := by
  rcases say_cases h with rfl | rfl | rfl | rfl | rfl | rfl | rfl | rfl | rfl | rfl | rfl | rfl | rfl | rfl | rfl | rfl | rfl | rfl | rfl | rfl | rfl | rfl
  all_goals simp [wordsP, fillW, joinP, sayL]
theorem words_all : ∀ n : Fin 22, ((wordsP (n.val + 1 : Nat)).all (fun x => decide (1 ≤ x.length ∧ x.length ≤ 40)) && decide (1 ≤ (wordsP (n.val + 1 : Nat)).length ∧ (wordsP (n.val + 1 : Nat)).length ≤ 20)) = true := by decide +kernel
theorem words_small {what : Int} (h : 1 ≤ what ∧ what ≤ 22) : (∀ x ∈ wordsP what, 1 ≤ x.length ∧ x.length ≤ 40) ∧ 1 ≤ (wordsP what).length ∧ (wordsP what).length ≤ 20 := by
  have := words_all ⟨(what - 1).toNat, by omega⟩
  rw [show (((⟨(what - 1).toNat, by omega⟩ : Fin 22).val + 1 : Nat) : Int) = what by simp; omega] at this
  simp only [Bool.and_eq_true, List.all_eq_true, decide_eq_true_eq] at this
  exact this
/-- The words are what strings.Split makes of the phrase. -/
def cutP (l : List UInt8) : List ByteArray := Lib.splitB ⟨#[32]⟩ 0 (Lib.countB ⟨l.toArray⟩ ⟨#[32]⟩) ⟨l.toArray⟩
theorem cut_all : ∀ n : Fin 22, (Lib.splitK [32] 0 (Lib.count (phraseL (n.val + 1 : Nat)) [32]) (phraseL (n.val + 1 : Nat)) == wordsP (n.val + 1 : Nat)) = true := by decide +kernel
theorem cut_words {what : Int} (h : 1 ≤ what ∧ what ≤ 22) : cutP (phraseL what) = (wordsP what).map fun l => (⟨l.toArray⟩ : ByteArray) := by
  have := cut_all ⟨(what - 1).toNat, by omega⟩
  rw [show (((⟨(what - 1).toNat, by omega⟩ : Fin 22).val + 1 : Nat) : Int) = what by simp; omega] at this
  rw [← eq_of_beq this]
  have hd := Lib.splitB_data ⟨#[32]⟩ 0 (Lib.countB ⟨(phraseL what).toArray⟩ ⟨#[32]⟩) ⟨(phraseL what).toArray⟩
  show Lib.splitB _ _ _ _ = _
  have hc : Lib.countB ⟨(phraseL what).toArray⟩ ⟨#[32]⟩ = Lib.count (phraseL what) [32] := rfl
  rw [hc] at hd ⊢
  rw [← show Lib.splitK (ByteArray.mk #[32]).data.toList 0 (Lib.count (phraseL what) [32]) (ByteArray.mk (phraseL what).toArray).data.toList = Lib.splitK [32] 0 (Lib.count (phraseL what) [32]) (phraseL what) from rfl, ← hd, List.map_map]
  refine (List.map_id _).symm.trans (List.map_congr_left fun x _ => ?_)
  show x = ⟨x.data.toList.toArray⟩
  simp
end Go.Proofs.YteeahhklbgnepaaDoor

/- Walks: strings.Split at a blank, by the library's genSplit. -/
set_option linter.unusedVariables false
set_option linter.unusedSimpArgs false
namespace Go.Proofs.YteeahhklbgnepaaDoor
open Go.RowKit

theorem cutP_len (l : List UInt8) : (cutP l).length = Lib.countB ⟨l.toArray⟩ ⟨#[32]⟩ + 1 := Lib.splitB_all ⟨#[32]⟩ (by decide) 0 _ ⟨l.toArray⟩ rfl
theorem genSplit18_any (l : List UInt8) (w : World) (hl : l.length ≤ 1000000) :
    Calls Tryd.prog 25 #[.string ⟨l.toArray⟩, .string ⟨#[32]⟩, .int .i64 0, .int .i64 (-1)] w fun e w' => e = .returned (.slice (some ⟨w.heap.size, 0, none⟩) (cutP l).length (cutP l).length) ∧ w' = w.alloc (.cells ((cutP l).map Value.string).toArray 9) := by
  have hs : (ByteArray.mk l.toArray).size < 4294967281 := by simp [ByteArray.size]; omega
  have hle := Lib.countB_le ⟨#[32]⟩ (by decide) _ (ByteArray.mk l.toArray) (Nat.le_refl _)
  have hI : ∀ (x : ByteArray) (c : Array Value), x.size ≤ (ByteArray.mk l.toArray).size → Calls Tryd.prog (Tryd.lays221_ren.f 143) #[.string x, .string ⟨#[32]⟩] (w.alloc (.cells c (Tryd.lays221_ren.t 9))) fun e w' => e = .returned (.int .i64 (Lib.indexB x ⟨#[32]⟩)) ∧ w' = w.alloc (.cells c (Tryd.lays221_ren.t 9)) := fun x c _ => by
    have h := Tryd.strings_Index_one x 32 (w.alloc (.cells c (Tryd.lays221_ren.t 9)))
    rw [← Lib.index_one] at h
    exact h
  have hC : Calls Tryd.prog (Tryd.lays221_ren.f 138) #[.string ⟨l.toArray⟩, .string ⟨#[32]⟩] w fun e w' => e = .returned (.int .i64 (Lib.countB ⟨l.toArray⟩ ⟨#[32]⟩)) ∧ w' = w := by
    have h := Tryd.strings_Count_one ⟨l.toArray⟩ 32 w
    rw [show Lib.countByte (ByteArray.mk l.toArray).data.toList 32 = Lib.countB ⟨l.toArray⟩ ⟨#[32]⟩ from (Lib.count_one 32 _).symm] at h
    exact h
  have c := Any.strings_genSplit_core Tryd.lays221 (by kernel_rfl) ⟨l.toArray⟩ ⟨#[32]⟩ 0 (-1) (Lib.countB ⟨l.toArray⟩ ⟨#[32]⟩ + 1) w hs (by decide) (Nat.zero_le _) hI hC (by decide) (by decide) (by rw [if_pos (by decide)]; omega)
  rw [Nat.add_sub_cancel] at c
  have hL := cutP_len l
  have e2 : Lib.cellsOf (cutP l) (Lib.countB ⟨l.toArray⟩ ⟨#[32]⟩ + 1) = ((cutP l).map Value.string).toArray := by rw [← hL]; exact Lib.cellsOf_full _
  rw [show Lib.splitB ⟨#[32]⟩ 0 (Lib.countB ⟨l.toArray⟩ ⟨#[32]⟩) ⟨l.toArray⟩ = cutP l from rfl, e2, ← hL] at c
  exact c

theorem Split18_any (l : List UInt8) (w : World) (hl : l.length ≤ 1000000) :
    Calls Tryd.prog 19 #[.string ⟨l.toArray⟩, .string ⟨#[32]⟩] w fun e w' => e = .returned (.slice (some ⟨w.heap.size, 0, none⟩) (cutP l).length (cutP l).length) ∧ w' = w.alloc (.cells ((cutP l).map Value.string).toArray 9) := by
  have c := genSplit18_any l w hl
  generalize hV : ((cutP l).map Value.string).toArray = V at *
  generalize (cutP l).length = n at *
  go_enter Tryd.func19, Tryd.ntmps19
  go_wp2_with fail
  refine c.mono ?_
  rintro e w' ⟨rfl, rfl⟩
  go_wp2
  go_ret
  exact ⟨rfl, rfl⟩
end Go.Proofs.YteeahhklbgnepaaDoor

/- Walks: package quote's bytes and forms. -/
set_option linter.unusedVariables false
set_option linter.unusedSimpArgs false
namespace Go.Proofs.YteeahhklbgnepaaDoor
open Go.RowKit

theorem bare_any (c : UInt8) (w : World) :
    Calls Tryd.prog 26 #[.int .u8 (c.toNat : Int)] w fun e w' => e = .returned (.bool (bareB c)) ∧ w = w' := by
  have h0 : (0 : Int) ≤ c.toNat := by omega
  go_enter Tryd.func26, Tryd.ntmps26
  go_wp2
  all_goals (go_ret; refine ⟨ret_bool ?_, rfl⟩; rw [Bool.eq_iff_iff]; simp [bareB]; omega)

theorem Tryd.info5 : (Tryd.prog.info? 5).map (fun i => (i.zero, i.size, i.bytes)) = some (some (.int .u8 0), 1, 1) := by kernel_rfl

set_option maxHeartbeats 1000000 in
theorem Quote_any (l : List UInt8) (w : World) (hl : l.length ≤ 1000000) :
    Calls Tryd.prog 20 #[.string ⟨l.toArray⟩] w fun e w' => e = .returned (.string ⟨(quoteB l).toArray⟩) ∧ Below w.heap.size w w' := by
  obtain ⟨i0, hi, hz0, hz1, hz2⟩ := info_parts Tryd.info5
  go_enter Tryd.func20, Tryd.ntmps20
  go_wp2_with (first | (at_make; (refine wpList_make_own _ rfl _ _ 38 rfl w.heap.size 5 i0 (.int .u8 0) 1 Tryd.underlying38 hi hz0 hz1 _ _ _ (l.length + 2) rfl rfl (by omega) (by rw [hz2]; omega) (by unfold maxLen; omega) (Nat.le_refl _) ?_); intro w1 hown1 hgr1) | (at_builtin; (refine wpList_append_new rfl (.tmp 9) (.tmp 10) 38 5 rfl Tryd.underlying38 hi hz0 hz1 hz2 rfl (by decide) (by decide) w.heap.size _ 1 rfl rfl hown1 rfl (by simp [Value.oneCell']) (by omega) hgr1.size ?_); intro v2 w2 hown2 hgr2))
  have B2 : Below w.heap.size w w2 := ((Below.refl _ _).grown hgr1 (Nat.le_refl _) (by simp)).trans hgr2
  simp only [Nat.zero_add, List.nil_append] at hown2
  clear hown1 hgr1 hgr2
  go_loopw [3, 14] (fun v i wr => ∃ k : Nat, k ≤ l.length ∧ i = .int .i64 k ∧ wr.ownsRow w.heap.size 5 1 v (1 + (formsB (l.take k)).length) (bytesV (34 :: formsB (l.take k))) ∧ Below w.heap.size w wr) (fun _ i _ => l.length - (intOf i).toNat)
  case atStart => exact ⟨0, Nat.zero_le _, rfl, hown2, B2⟩
  case round =>
    obtain ⟨k, hk, rfl, hown, hb⟩ := hrel
    by_cases hlt : k < l.length
    · have hsn := Lib.hid (formsB_snoc l k hlt)
      have hfl := formsB_take_len l k
      have hc := l[k].toNat_lt
      have q0 : (0 : Int) ≤ (l[k].toNat : Int) / 16 := by omega
      have q1 : (l[k].toNat : Int) / 16 < 16 := by omega
      have e15 := bits_and15 l[k].toNat hc
      have r0 : (0 : Int) ≤ (l[k].toNat : Int) % 16 := by omega
      have r1 : (l[k].toNat : Int) % 16 < 16 := by omega
      cases hbk : bareB l[k]
      · go_wp2_with (first | (go_at_call 26; refine (bare_any _ _).mono ?_; rintro e w' ⟨rfl, rfl⟩))
        go_region_held3 (fun w' => True) (exact trivial) ((refine step_append_own (by rfl) (.tmp 27) (.tmp 38) 38 5 (by rfl) Tryd.underlying38 hi hz0 hz1 hz2 rfl (by decide) (by decide) w.heap.size _ 4 _ (by rfl) (by rfl) (hown.alloc _).drew (by rfl) (cells_block _ _ _) (by simp [Value.oneCell']) (by omega) (by have := hb.size; simp; omega) ?_; intro v3 w3 hown3 hb3))
        all_goals
          go_wp2
          go_roundw
          case rel =>
            have g1 := hex_at (l[k].toNat / 16) ((l[k].toNat : Int) / 16) (by omega) (by simp [hexDigits]; omega)
            have g2 := hex_at (l[k].toNat % 16) ((l[k].toNat : Int) % 16) (by omega) (by simp [hexDigits]; omega)
            unfold hexDigits at g1 g2
            rw [g1, g2] at hown3
            refine ⟨k + 1, by omega, by go_num, ?_, hb.trans (((Below.refl _ _).alloc hb.size _).drew.trans hb3)⟩
            rw [hsn.out, formB_hex hbk]; simpa [bytesV, Nat.add_assoc] using hown3
          case measure => simp [intOf]; omega
      · go_wp2_with (first | (go_at_call 26; refine (bare_any _ _).mono ?_; rintro e w' ⟨rfl, rfl⟩) | (at_builtin; refine wpList_append_new rfl (.tmp 21) (.tmp 25) 38 5 rfl Tryd.underlying38 hi hz0 hz1 hz2 rfl (by decide) (by decide) w.heap.size _ 1 rfl rfl hown rfl (by simp [Value.oneCell']) (by omega) hb.size ?_; intro v3 w3 hown3 hb3))
        go_roundw
        case rel => exact ⟨k + 1, by omega, by go_num, by rw [hsn.out, formB_bare hbk]; simpa [bytesV, Nat.add_assoc] using hown3, hb.trans hb3⟩
        case measure => simp [intOf]; omega
    · obtain rfl : k = l.length := by omega
      rw [List.take_length] at hown
      have hfl := formsB_len l
      go_wp2_with (first | (at_builtin; refine wpList_append_new rfl (.tmp 41) (.tmp 42) 38 5 rfl Tryd.underlying38 hi hz0 hz1 hz2 rfl (by decide) (by decide) w.heap.size _ 1 rfl rfl hown rfl (by simp [Value.oneCell']) (by omega) hb.size ?_; intro v3 w3 hown3 hb3; have hcv := run_own_string (P := Tryd.prog) (l := quoteB l) 38 9 Tryd.underlying38 Tryd.underlying5 Tryd.underlying9 (by simpa [bytesV, quoteB] using hown3)))
      go_ret
      exact ⟨rfl, hb.trans hb3⟩

end Go.Proofs.YteeahhklbgnepaaDoor

/- A block of cells, known whole. -/
set_option linter.unusedVariables false
set_option linter.unusedSimpArgs false
namespace Go.Proofs.YteeahhklbgnepaaDoor
open Go.RowKit

/-- A block of cells, each of which may be written. -/
def Blk (W : World) (B : Nat) (t : TypeId) (cs : Array Value) : Prop := W.heap[B]? = some (.cells cs t (0, 0))
theorem Blk.lt {W : World} {B : Nat} {t : TypeId} {cs : Array Value} (h : Blk W B t cs) : B < W.heap.size := (Array.getElem?_eq_some_iff.1 h).1
theorem Blk.cell {W : World} {B : Nat} {t : TypeId} {cs : Array Value} (h : Blk W B t cs) (i : Nat) : W.cell? ⟨B, i, none⟩ = cs[i]? := by simp [World.cell?, show W.heap[B]? = _ from h]
theorem Blk.frozen {W : World} {B : Nat} {t : TypeId} {cs : Array Value} (h : Blk W B t cs) (i : Nat) : W.frozen? ⟨B, i, none⟩ = false := by simp [World.frozen?, show W.heap[B]? = _ from h]
theorem Blk.new (W : World) (t : TypeId) (cs : Array Value) : Blk (W.alloc (.cells cs t)) W.heap.size t cs := World.alloc_heap_new W _
theorem Blk.kept {W W' : World} {row : Option Nat} {B : Nat} {t : TypeId} {cs : Array Value} (h : Blk W B t cs) (hg : W.grownBy W' row) (hne : some B ≠ row) : Blk W' B t cs := (hg.block B h.lt hne).trans h
theorem Blk.below {W W' : World} {n B : Nat} {t : TypeId} {cs : Array Value} (h : Blk W B t cs) (hb : Below n W W') (hn : B < n) : Blk W' B t cs := (hb.block B hn).trans h
theorem Blk.next {W W' : World} {B : Nat} {t : TypeId} {cs : Array Value} (h : Blk W B t cs) (hb : Below W.heap.size W W') : Blk W' B t cs := h.below hb h.lt
theorem Blk.alloc {W : World} {B : Nat} {t : TypeId} {cs : Array Value} (h : Blk W B t cs) (o : Obj) : Blk (W.alloc o) B t cs := h.kept (World.grownBy_alloc W o none) (by simp)
theorem Blk.set {W : World} {B : Nat} {t : TypeId} {cs : Array Value} (h : Blk W B t cs) (i : Nat) (v : Value) : Blk (W.setCell ⟨B, i, none⟩ v) B t (cs.setIfInBounds i v) := by
  obtain ⟨hlt, hk⟩ := Array.getElem?_eq_some_iff.1 h
  show (W.heap.modify B _)[B]? = _
  rw [Array.getElem?_eq_getElem (by rw [Array.size_modify]; exact hlt), Array.getElem_modify_self, hk]
  rfl
theorem Blk.other {W : World} {B B2 i : Nat} {t : TypeId} {cs : Array Value} (h : Blk W B t cs) (hne : B ≠ B2) (v : Value) : Blk (W.setCell ⟨B2, i, none⟩ v) B t cs := by
  show (W.setCell ⟨B2, i, none⟩ v).heap[B]? = _
  rw [Below.heap_setCell _ _ _ B (fun e => hne e)]; exact h
theorem grownBy_set (W : World) (b i : Nat) (v : Value) : W.grownBy (W.setCell ⟨b, i, none⟩ v) (some b) :=
  ⟨rfl, rfl, rfl, (KeepsWalks.setCell W _ v).size, fun k _ hk => Below.heap_setCell _ _ _ k (fun e => hk (by rw [e]))⟩
end Go.Proofs.YteeahhklbgnepaaDoor

/- Walks: where the program's tables lie; args.Name; quote.Join. -/
set_option linter.unusedVariables false
set_option linter.unusedSimpArgs false
namespace Go.Proofs.YteeahhklbgnepaaDoor
open Go.RowKit
set_option linter.unusedVariables false

/-- The names of the commands lie in memory. -/
def LaidN (w : World) : Prop := 0 < w.heap.size ∧ ∀ i : Nat, i < 6 → w.cell? ⟨0, i * 4, none⟩ = some (.string ⟨(nameK (i : Int)).toArray⟩)
theorem LaidN.next {w w' : World} (h : LaidN w) (hb : Below w.heap.size w w') : LaidN w' :=
  ⟨Nat.lt_of_lt_of_le h.1 hb.size, fun i hi => (hb.cell (p := ⟨0, i * 4, none⟩) h.1).trans (h.2 i hi)⟩
/-- The tables of errs and of args lie in memory. -/
def LaidD (w : World) : Prop := Laid w ∧ LaidN w
theorem LaidD.next {w w' : World} (h : LaidD w) (hb : Below w.heap.size w w') : LaidD w' := ⟨h.1.next hb, h.2.next hb⟩

theorem Name18_any (k : Int) (w : World) (hL : LaidN w) : Calls Tryd.prog 11 #[.int .i64 k] w fun e w' => e = .returned (.string ⟨(nameK k).toArray⟩) ∧ Below w.heap.size w w' := by
  by_cases h : 1 ≤ k ∧ k ≤ 5
  · obtain ⟨n, rfl⟩ : ∃ n : Nat, k = n := ⟨k.toNat, by omega⟩
    have c := hL.2 n (by omega)
    have hs := nameK_len (n : Int)
    clear hL
    go_enter Tryd.func11, Tryd.ntmps11
    go_wp2_with fail
    refine (Clone_any _ _ (by omega)).mono ?_
    rintro e w' ⟨rfl, hB⟩
    go_wp2
    go_ret
    exact ⟨rfl, hB⟩
  · rw [name_no h]
    clear hL
    by_cases h1 : k < 1
    · go_enter Tryd.func11, Tryd.ntmps11
      go_wp2
      go_ret
      exact ⟨rfl, Below.refl _ _⟩
    · have h2 : 5 < k := by omega
      go_enter Tryd.func11, Tryd.ntmps11
      go_wp2
      go_ret
      exact ⟨rfl, Below.refl _ _⟩

set_option maxHeartbeats 800000 in
theorem JoinP_any (l : List (List UInt8)) (v : Value) (w : World) (hv : Strs w v l) (hl : l.length ≤ 1000001) (hj : (joinP l).length ≤ 1000000) :
    Calls Tryd.prog 22 #[v] w fun e w' => e = .returned (.string ⟨(joinP l).toArray⟩) ∧ Below w.heap.size w w' := by
  obtain ⟨a, ca, rfl, hm, HA0⟩ := hv
  have HA := Lib.hid HA0
  clear HA0 hm
  obtain ⟨i0, hi, hz0, hz1, hz2⟩ := info_parts Tryd.info8
  go_enter Tryd.func22, Tryd.ntmps22
  go_wp2
  go_loopw [3, 8] (fun s i wr => ∃ k : Nat, k ≤ l.length ∧ i = .int .i64 k ∧ wr.ownsRow w.heap.size 5 1 s (joinP (l.take k)).length (bytesV (joinP (l.take k))) ∧ Below w.heap.size w wr) (fun _ i _ => l.length - (intOf i).toNat)
  case atStart => exact ⟨0, Nat.zero_le _, rfl, World.ownsRow_nil _ _ _ _, Below.refl _ _⟩
  case round =>
    obtain ⟨k, hk, rfl, hown, hb⟩ := hrel
    by_cases hlt : k < l.length
    · obtain ⟨ba, oa, rfl, hba, hca⟩ := HA.out (by omega)
      have c1 : wr.cell? ⟨ba, oa + k, none⟩ = some (.string ⟨l[k].toArray⟩) := (hb.cell (p := ⟨ba, oa + k, none⟩) hba).trans (hca k hlt)
      clear hca
      have hjt := Lib.hid (joinP_take l k hlt)
      have hj1 := joinP_take_le l (l.length - (k + 1)) (k + 1) (by omega)
      have hj0 := joinP_take_le l (l.length - k) k (by omega)
      by_cases h0 : k = 0
      · subst h0
        have hsz : l[0].length ≤ 1000000 := by rw [hjt.out, if_pos rfl] at hj1; omega
        clear hj1 hj0
        simp only [List.take_zero] at hown
        have hown' : wr.ownsRow w.heap.size 5 1 u3 0 [] := by simpa [joinP, bytesV] using hown
        clear hown
        simp only [Nat.add_zero] at c1
        go_wp2_with (at_builtin; (refine Lib.wpList_append_own_string _ rfl (.tmp 18) (.tmp 19) 38 9 rfl w.heap.size 5 i0 Tryd.underlying38 Tryd.underlying9 hi hz0 hz1 hz2 _ _ _ rfl hown' _ rfl (by simp [ByteArray.size, maxLen]; omega) (by simp [ByteArray.size]; omega) hb.size ?_); intro v3 w3 hown3 hg3 _)
        have hb3 := own_below hown' hg3 hb.size
        go_roundw
        case rel => exact ⟨1, by omega, rfl, by rw [hjt.out, if_pos rfl]; simpa [bytesV_str, ByteArray.size] using hown3, hb.trans hb3⟩
        case measure => simp [intOf]; omega
      · have hk0 : (0 : Int) < (k : Int) := by omega
        have hsz : (joinP (l.take k)).length + l[k].length + 1 ≤ 1000000 := by rw [hjt.out, if_neg h0] at hj1; simp at hj1; omega
        clear hj1
        go_wp2_with (first | (at_builtin; refine wpList_append_new rfl (.tmp 15) (.tmp 16) 38 5 rfl Tryd.underlying38 hi hz0 hz1 hz2 rfl (by decide) (by decide) w.heap.size _ 1 rfl rfl hown rfl (by simp [Value.oneCell']) (by omega) hb.size ?_; intro v3 w3 hown3 hb3) | (at_builtin; (refine Lib.wpList_append_own_string _ rfl (.tmp 18) (.tmp 19) 38 9 rfl w.heap.size 5 i0 Tryd.underlying38 Tryd.underlying9 hi hz0 hz1 hz2 _ _ _ rfl hown3 _ rfl (by simp [ByteArray.size, maxLen]; omega) (by simp [ByteArray.size]; omega) (hb.trans hb3).size ?_); intro v4 w4 hown4 hg4 _))
        have hb4 := own_below hown3 hg4 (hb.trans hb3).size
        go_roundw
        case rel => exact ⟨k + 1, by omega, by go_num, by (rw [hjt.out, if_neg h0]; have e : (joinP (l.take k) ++ 32 :: l[k]).length = (joinP (l.take k)).length + 1 + l[k].length := by (simp; omega)); rw [e]; simpa [bytesV, bytesV_str, ByteArray.size] using hown4, (hb.trans hb3).trans hb4⟩
        case measure => simp [intOf]; omega
    · obtain rfl : k = l.length := by omega
      rw [List.take_length] at hown
      have hcv := run_own_string (P := Tryd.prog) (l := joinP l) 38 9 Tryd.underlying38 Tryd.underlying5 Tryd.underlying9 hown
      go_wp2
      go_ret
      exact ⟨rfl, hb⟩

end Go.Proofs.YteeahhklbgnepaaDoor

/- Walks: the program's Phrase. -/
set_option linter.unusedVariables false
set_option linter.unusedSimpArgs false
namespace Go.Proofs.YteeahhklbgnepaaDoor
open Go.RowKit
set_option linter.unusedVariables false

/-- The table of the phrases, as the program builds it. -/
def phV : Array Value := #[.string ⟨#[]⟩, .string ⟨#[99, 97, 110, 110, 111, 116, 32, 99, 114, 101, 97, 116, 101, 32, 100, 105, 114, 101, 99, 116, 111, 114, 121, 32, 65, 58, 32, 69]⟩, .string ⟨#[99, 97, 110, 110, 111, 116, 32, 114, 101, 109, 111, 118, 101, 32, 65, 58, 32, 69]⟩, .string ⟨#[114, 101, 102, 117, 115, 105, 110, 103, 32, 116, 111, 32, 114, 101, 109, 111, 118, 101, 32, 34, 46, 34, 32, 111, 114, 32, 34, 46, 46, 34, 32, 100, 105, 114, 101, 99, 116, 111, 114, 121, 58, 32, 115, 107, 105, 112, 112, 105, 110, 103, 32, 65]⟩, .string ⟨#[105, 116, 32, 105, 115, 32, 100, 97, 110, 103, 101, 114, 111, 117, 115, 32, 116, 111, 32, 111, 112, 101, 114, 97, 116, 101, 32, 114, 101, 99, 117, 114, 115, 105, 118, 101, 108, 121, 32, 111, 110, 32, 65]⟩, .string ⟨#[102, 97, 105, 108, 101, 100, 32, 116, 111, 32, 97, 99, 99, 101, 115, 115, 32, 65, 58, 32, 69]⟩, .string ⟨#[65, 58, 32, 104, 97, 114, 100, 32, 108, 105, 110, 107, 32, 110, 111, 116, 32, 97, 108, 108, 111, 119, 101, 100, 32, 102, 111, 114, 32, 100, 105, 114, 101, 99, 116, 111, 114, 121]⟩, .string ⟨#[102, 97, 105, 108, 101, 100, 32, 116, 111, 32, 99, 114, 101, 97, 116, 101, 32, 104, 97, 114, 100, 32, 108, 105, 110, 107, 32, 66, 58, 32, 69]⟩, .string ⟨#[102, 97, 105, 108, 101, 100, 32, 116, 111, 32, 99, 114, 101, 97, 116, 101, 32, 115, 121, 109, 98, 111, 108, 105, 99, 32, 108, 105, 110, 107, 32, 66, 58, 32, 69]⟩, .string ⟨#[65, 32, 97, 110, 100, 32, 66, 32, 97, 114, 101, 32, 116, 104, 101, 32, 115, 97, 109, 101, 32, 102, 105, 108, 101]⟩, .string ⟨#[116, 97, 114, 103, 101, 116, 32, 65, 32, 105, 115, 32, 110, 111, 116, 32, 97, 32, 100, 105, 114, 101, 99, 116, 111, 114, 121]⟩, .string ⟨#[99, 97, 110, 110, 111, 116, 32, 115, 116, 97, 116, 32, 65, 58, 32, 69]⟩, .string ⟨#[99, 97, 110, 110, 111, 116, 32, 111, 118, 101, 114, 119, 114, 105, 116, 101, 32, 110, 111, 110, 45, 100, 105, 114, 101, 99, 116, 111, 114, 121, 32, 66, 32, 119, 105, 116, 104, 32, 100, 105, 114, 101, 99, 116, 111, 114, 121, 32, 65]⟩, .string ⟨#[99, 97, 110, 110, 111, 116, 32, 111, 118, 101, 114, 119, 114, 105, 116, 101, 32, 100, 105, 114, 101, 99, 116, 111, 114, 121, 32, 66, 32, 119, 105, 116, 104, 32, 110, 111, 110, 45, 100, 105, 114, 101, 99, 116, 111, 114, 121, 32, 65]⟩, .string ⟨#[99, 97, 110, 110, 111, 116, 32, 109, 111, 118, 101, 32, 65, 32, 116, 111, 32, 97, 32, 115, 117, 98, 100, 105, 114, 101, 99, 116, 111, 114, 121, 32, 111, 102, 32, 105, 116, 115, 101, 108, 102, 44, 32, 66]⟩, .string ⟨#[99, 97, 110, 110, 111, 116, 32, 109, 111, 118, 101, 32, 65, 32, 116, 111, 32, 66, 58, 32, 69]⟩, .string ⟨#[45, 114, 32, 110, 111, 116, 32, 115, 112, 101, 99, 105, 102, 105, 101, 100, 59, 32, 111, 109, 105, 116, 116, 105, 110, 103, 32, 100, 105, 114, 101, 99, 116, 111, 114, 121, 32, 65]⟩, .string ⟨#[99, 97, 110, 110, 111, 116, 32, 99, 114, 101, 97, 116, 101, 32, 114, 101, 103, 117, 108, 97, 114, 32, 102, 105, 108, 101, 32, 66, 58, 32, 69]⟩, .string ⟨#[99, 97, 110, 110, 111, 116, 32, 99, 114, 101, 97, 116, 101, 32, 115, 121, 109, 98, 111, 108, 105, 99, 32, 108, 105, 110, 107, 32, 66, 58, 32, 69]⟩, .string ⟨#[99, 97, 110, 110, 111, 116, 32, 99, 111, 112, 121, 32, 97, 32, 100, 105, 114, 101, 99, 116, 111, 114, 121, 44, 32, 65, 44, 32, 105, 110, 116, 111, 32, 105, 116, 115, 101, 108, 102, 44, 32, 66]⟩, .string ⟨#[110, 111, 116, 32, 119, 114, 105, 116, 105, 110, 103, 32, 116, 104, 114, 111, 117, 103, 104, 32, 100, 97, 110, 103, 108, 105, 110, 103, 32, 115, 121, 109, 108, 105, 110, 107, 32, 66]⟩, .string ⟨#[101, 114, 114, 111, 114, 32, 119, 114, 105, 116, 105, 110, 103, 32, 66, 58, 32, 69]⟩, .string ⟨#[99, 97, 110, 110, 111, 116, 32, 99, 114, 101, 97, 116, 101, 32, 100, 105, 114, 101, 99, 116, 111, 114, 121, 32, 66, 58, 32, 69]⟩]
theorem phV_all : ∀ n : Fin 23, (n.val = 0 ∨ phV[n.val]? = some (.string ⟨(phraseL (n.val : Nat)).toArray⟩)) := by
  intro ⟨n, hn⟩
  have hc : n = 0 ∨ n = 1 ∨ n = 2 ∨ n = 3 ∨ n = 4 ∨ n = 5 ∨ n = 6 ∨ n = 7 ∨ n = 8 ∨ n = 9 ∨ n = 10 ∨ n = 11 ∨ n = 12 ∨ n = 13 ∨ n = 14 ∨ n = 15 ∨ n = 16 ∨ n = 17 ∨ n = 18 ∨ n = 19 ∨ n = 20 ∨ n = 21 ∨ n = 22 := by omega
  rcases hc with rfl | rfl | rfl | rfl | rfl | rfl | rfl | rfl | rfl | rfl | rfl | rfl | rfl | rfl | rfl | rfl | rfl | rfl | rfl | rfl | rfl | rfl | rfl
  · exact Or.inl rfl
  all_goals (refine Or.inr ?_; show _ = _; kernel_rfl)
theorem grownBy_row (W : World) (g : Nat) (cs : Array Value) : W.grownBy (W.setRow g cs) (some g) :=
  ⟨rfl, rfl, rfl, Nat.le_of_eq (setRow_size W g cs).symm, fun k _ hk => setRow_other W g k cs (fun e => hk (by rw [e]))⟩

set_option maxHeartbeats 4000000 in
theorem Phrase_any (what : Int) (w : World) (hL : LaidD w) :
    Calls Tryd.prog 9 #[.int .i64 what] w fun r w' => r = .returned (.string ⟨(phraseL what).toArray⟩) ∧ Below w.heap.size w w' := by
  clear hL
  by_cases h : 1 ≤ what ∧ what ≤ 22
  · obtain ⟨n, rfl⟩ : ∃ n : Nat, what = n := ⟨what.toNat, by omega⟩
    obtain ⟨h1, h2⟩ := h
    have hc : phV[n]? = some (.string ⟨(phraseL n).toArray⟩) := (phV_all ⟨n, by omega⟩).resolve_left (by simp; omega)
    have hl : (phraseL n).length ≤ 100000000 := by have := say_len n [65] [66] [69]; unfold phraseL; simp at this; omega
    have hz : phV.size = 23 := rfl
    have ho : phV.all (·.oneCell') = true := by kernel_rfl
    go_enter Tryd.func9, Tryd.ntmps9
    go_upto_region 3 with fail
    go_step
    refine wpList_build rfl 33 _ rfl (by kernel_rfl) ?_
    rw [show Option.getD (Program.built _ _ _) _ = phV by kernel_rfl]
    generalize phV = V at *
    go_upto_region 4 with (refine wpList_store_row rfl 33 _ _ rfl w.heap.size V rfl rfl 33 _ (World.alloc_heap_new w _) (by rw [hz]; kernel_rfl) (by rw [hz]; rfl) ho ?_)
    generalize hw : World.setRow _ _ _ = w1
    have gr : Below w.heap.size w w1 := by
      rw [← hw]
      exact (below_new w _).grown (grownBy_row _ _ _) (by simp) (fun k hk => by simp at hk; omega)
    have c1 : w1.cell? ⟨w.heap.size, n, none⟩ = some (.string ⟨(phraseL n).toArray⟩) := by
      rw [← hw]
      exact (cell_setRow_same _ _ n _ V _ _ (World.alloc_heap_new w _)).trans hc
    clear hw hc hz ho
    go_wp2_with fail
    refine (Clone_any _ _ hl).mono ?_
    rintro e w2 ⟨rfl, b2⟩
    go_wp2
    go_ret
    exact ⟨rfl, gr.trans (b2.mono gr.size)⟩
  · have hn : phraseL what = [] := say_none h _ _ _
    rw [hn]
    clear hn
    by_cases h1 : what < 1
    · clear h
      go_enter Tryd.func9, Tryd.ntmps9
      go_wp2
      go_ret
      exact ⟨rfl, Below.refl _ _⟩
    · have h2 : 22 < what := by omega
      clear h
      go_enter Tryd.func9, Tryd.ntmps9
      go_wp2
      go_ret
      exact ⟨rfl, Below.refl _ _⟩
end Go.Proofs.YteeahhklbgnepaaDoor
