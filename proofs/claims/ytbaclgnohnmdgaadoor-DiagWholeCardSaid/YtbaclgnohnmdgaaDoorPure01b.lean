/- Plain functions on lists of bytes: reading what is quoted. No walk, no program. -/
import Derived.Test.YtbaclgnohnmdgaaDoorPure01
set_option linter.unusedVariables false
set_option linter.unusedSimpArgs false
namespace Go.Proofs.YtbaclgnohnmdgaaDoor

/-- The place of a digit base sixteen: 16, if it is none. -/
def idx16 (c : UInt8) : Nat := hexDigits.findIdx (· == c)
theorem idx16_le (c : UInt8) : idx16 c ≤ 16 := List.findIdx_le_length
theorem hexD_idx16 {c : UInt8} (h : idx16 c < 16) : hexD (idx16 c) = c := by
  have h' : idx16 c < hexDigits.length := h
  have := List.findIdx_getElem (p := (· == c)) (xs := hexDigits) (w := h')
  rw [← hex_atN _ h']; simp only [beq_iff_eq] at this; exact this
theorem idx16_hexD_all : ∀ n : Fin 16, idx16 (hexD n.val) = n.val := by decide
theorem idx16_hexD {n : Nat} (h : n < 16) : idx16 (hexD n) = n := idx16_hexD_all ⟨n, h⟩
theorem idx16_of {c : UInt8} {d : Nat} (hd : d ≤ 16) (hb : ∀ j, j < d → hexD j ≠ c) (he : d < 16 → hexD d = c) : idx16 c = d := by
  rcases Nat.lt_or_ge (idx16 c) d with h | h
  · exact absurd (hexD_idx16 (by omega)) (hb _ h)
  · rcases Nat.lt_or_ge d 16 with h2 | h2
    · have e := he h2
      have := idx16_hexD h2
      rw [e] at this; exact this
    · have := idx16_le c; omega

theorem byte_split (b : UInt8) : (16 * (b.toNat / 16) + b.toNat % 16).toUInt8 = b := by
  have : 16 * (b.toNat / 16) + b.toNat % 16 = b.toNat := by omega
  rw [this]; simp
theorem byte_join {h l : Nat} (hh : h < 16) (hl : l < 16) : (16 * h + l).toUInt8.toNat = 16 * h + l := by
  simp only [Nat.toUInt8_eq, UInt8.toNat_ofNat']; omega

def firstB : List UInt8 → Option (UInt8 × Nat)
  | [] => none
  | c :: r => if bareB c = true then some (c, 1) else
    match r with
    | e :: h :: l :: _ => if c = 92 ∧ e = 120 ∧ idx16 h < 16 ∧ idx16 l < 16 ∧ bareB (16 * idx16 h + idx16 l).toUInt8 = false then some ((16 * idx16 h + idx16 l).toUInt8, 4) else none
    | _ => none

theorem bareB_92 : bareB 92 = false := by decide

theorem firstB_form (b : UInt8) (t : List UInt8) : firstB (formB b ++ t) = some (b, (formB b).length) := by
  cases hb : bareB b
  · have h1 : b.toNat / 16 < 16 := by have := b.toNat_lt; omega
    have h2 : b.toNat % 16 < 16 := by omega
    rw [formB_hex hb]
    have hs := byte_split b
    simp only [List.cons_append, List.nil_append, firstB, bareB_92, idx16_hexD h1, idx16_hexD h2, h1, h2, hs, hb, Bool.false_eq_true, if_false, and_self, if_true]
    rfl
  · rw [formB_bare hb]; simp [firstB, hb]

theorem firstB_some {l : List UInt8} {b : UInt8} {k : Nat} (h : firstB l = some (b, k)) : k = (formB b).length ∧ l = formB b ++ l.drop k := by
  cases l with
  | nil => simp [firstB] at h
  | cons c r =>
    cases hc : bareB c
    · revert h
      match r with
      | [] => intro h; simp [firstB, hc] at h
      | [_] => intro h; simp [firstB, hc] at h
      | [_, _] => intro h; simp [firstB, hc] at h
      | e :: hi :: lo :: t =>
        intro h
        have hE : firstB (c :: e :: hi :: lo :: t) = if bareB c = true then some (c, 1) else if c = 92 ∧ e = 120 ∧ idx16 hi < 16 ∧ idx16 lo < 16 ∧ bareB (16 * idx16 hi + idx16 lo).toUInt8 = false then some ((16 * idx16 hi + idx16 lo).toUInt8, 4) else none := rfl
        rw [hE, if_neg (by simp [hc])] at h
        split at h
        · rename_i hh
          obtain ⟨rfl, rfl, h1, h2, hb⟩ := hh
          injection h with h
          injection h with ha hk
          subst ha hk
          have e := byte_join h1 h2
          have e1 : (16 * idx16 hi + idx16 lo) / 16 = idx16 hi := by omega
          have e2 : (16 * idx16 hi + idx16 lo) % 16 = idx16 lo := by omega
          rw [formB_hex hb, e, e1, e2, hexD_idx16 h1, hexD_idx16 h2]
          simp
        · cases h
    · simp only [firstB, hc, if_true, Option.some.injEq, Prod.mk.injEq] at h
      obtain ⟨rfl, rfl⟩ := h
      simp [formB_bare hc]

theorem formsB_cons (b : UInt8) (x : List UInt8) : formsB (b :: x) = formB b ++ formsB x := by simp [formsB]
theorem formsB_append (x y : List UInt8) : formsB (x ++ y) = formsB x ++ formsB y := by simp [formsB]

/-- What stands behind the forms of x is the forms of the rest. -/
theorem formsB_split : ∀ (x y r : List UInt8), formsB y = formsB x ++ r → ∃ z, y = x ++ z ∧ formsB z = r
  | [], y, r, h => ⟨y, rfl, by simpa [formsB] using h⟩
  | b :: x, y, r, h => by
    rw [formsB_cons, List.append_assoc] at h
    have h1 := firstB_form b (formsB x ++ r)
    rw [← h] at h1
    cases y with
    | nil =>
      have h2 : formsB ([] : List UInt8) = [] := rfl
      rw [h2] at h1; cases h1
    | cons c y =>
      rw [formsB_cons, firstB_form] at h1
      simp only [Option.some.injEq, Prod.mk.injEq] at h1
      obtain ⟨rfl, _⟩ := h1
      rw [formsB_cons] at h
      obtain ⟨z, rfl, hz⟩ := formsB_split x y r (List.append_cancel_left h)
      exact ⟨z, rfl, hz⟩

theorem formsB_inj {x y : List UInt8} (h : formsB x = formsB y) : x = y := by
  obtain ⟨z, rfl, hz⟩ := formsB_split y x [] (by simpa using h)
  cases z with
  | nil => simp
  | cons c z => rw [formsB_cons] at hz; have := formB_pos c; simp at hz; simp [hz.1] at this

theorem quoteB_inj {x y : List UInt8} (h : quoteB x = quoteB y) : x = y := by
  simp only [quoteB, List.cons.injEq, true_and] at h
  exact formsB_inj (List.append_cancel_right h)

/-- What is read between the marks. -/
def readF : Nat → List UInt8 → Option (List UInt8)
  | _, [] => some []
  | 0, _ :: _ => none
  | n + 1, c :: r => match firstB (c :: r) with
    | none => none
    | some (b, k) => (readF n ((c :: r).drop k)).map (b :: ·)

theorem readF_forms : ∀ (x : List UInt8) (n : Nat), (formsB x).length ≤ n → readF n (formsB x) = some x
  | [], n, _ => by cases n <;> rfl
  | b :: x, n, h => by
    rw [formsB_cons] at h ⊢
    have hp := formB_pos b
    have hf := firstB_form b (formsB x)
    match e : formB b, n with
    | [], _ => simp [e] at hp
    | c :: t, 0 => simp [e] at h
    | c :: t, n + 1 =>
      rw [e] at hf h
      simp only [List.cons_append] at hf ⊢
      have hd : (c :: (t ++ formsB x)).drop (c :: t).length = formsB x := by rw [← List.cons_append]; exact List.drop_left
      simp only [readF, hf, hd]
      rw [readF_forms x n (by simp at h; omega)]
      rfl

theorem readF_some : ∀ (n : Nat) (l x : List UInt8), readF n l = some x → formsB x = l
  | _, [], x, h => by simp [readF] at h; subst h; rfl
  | 0, _ :: _, x, h => by simp [readF] at h
  | n + 1, c :: r, x, h => by
    simp only [readF] at h
    split at h
    · cases h
    · rename_i b k hf
      obtain ⟨y, hy, rfl⟩ := Option.map_eq_some_iff.1 h
      rw [formsB_cons, readF_some n _ y hy]
      exact (firstB_some hf).2.symm

/-- The text that is quoted as l, if there is one. -/
def unquoteB : List UInt8 → Option (List UInt8)
  | [] => none
  | c :: r => if c = 34 ∧ r.getLast? = some 34 then readF r.length r.dropLast else none

theorem unquoteB_quote (x : List UInt8) : unquoteB (quoteB x) = some x := by
  simp only [quoteB, unquoteB, List.getLast?_append, List.getLast?_singleton, Option.some_or, and_self, if_true, List.dropLast_concat]
  exact readF_forms x _ (by simp)
theorem unquoteB_some {l x : List UInt8} (h : unquoteB l = some x) : quoteB x = l := by
  cases l with
  | nil => cases h
  | cons c r =>
    simp only [unquoteB] at h
    split at h
    · rename_i hc
      obtain ⟨rfl, hl⟩ := hc
      rw [quoteB, readF_some _ _ _ h]
      congr 1
      have hne : r ≠ [] := by rintro rfl; simp at hl
      have := List.dropLast_concat_getLast hne
      rw [List.getLast?_eq_some_getLast hne] at hl
      simp only [Option.some.injEq] at hl
      rw [hl] at this; exact this
    · cases h
theorem unquoteB_of {l x : List UInt8} (h : quoteB x = l) : unquoteB l = some x := by rw [← h]; exact unquoteB_quote x
theorem unquoteB_none {l : List UInt8} (h : ∀ x, quoteB x ≠ l) : unquoteB l = none := by
  cases e : unquoteB l with
  | none => rfl
  | some x => exact absurd (unquoteB_some e) (h x)

/-- A word: plain, or quoted. -/
def wordB (l : List UInt8) : Bool := plainB l || (unquoteB l).isSome
end Go.Proofs.YtbaclgnohnmdgaaDoor
