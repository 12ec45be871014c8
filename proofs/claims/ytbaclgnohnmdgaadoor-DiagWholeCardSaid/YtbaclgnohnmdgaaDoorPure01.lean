/- Plain functions on lists of bytes: quoting and its form. No walk, no program. -/
namespace Go.Proofs.YtbaclgnohnmdgaaDoor

/-- A byte that stands for itself between quotes. -/
def bareB (c : UInt8) : Bool := decide (32 ≤ c.toNat) && decide (c.toNat ≤ 126) && !(c.toNat == 34) && !(c.toNat == 92)
abbrev hexDigits : List UInt8 := [48, 49, 50, 51, 52, 53, 54, 55, 56, 57, 97, 98, 99, 100, 101, 102]
def hexD (n : Nat) : UInt8 := hexDigits.getD n 0
/-- A byte's form between quotes. -/
def formB (c : UInt8) : List UInt8 := if bareB c then [c] else [92, 120, hexD (c.toNat / 16), hexD (c.toNat % 16)]
/-- The forms of all bytes. -/
def formsB (l : List UInt8) : List UInt8 := l.flatMap formB
def quoteB (l : List UInt8) : List UInt8 := 34 :: (formsB l ++ [34])
/-- A plain word's byte. -/
def plainC (c : UInt8) : Bool := decide (33 ≤ c.toNat) && decide (c.toNat ≤ 126) && !(c.toNat == 34)
def plainB (l : List UInt8) : Bool := !l.isEmpty && l.all plainC

theorem formB_bare {c : UInt8} (h : bareB c = true) : formB c = [c] := by simp [formB, h]
theorem formB_hex {c : UInt8} (h : bareB c = false) : formB c = [92, 120, hexD (c.toNat / 16), hexD (c.toNat % 16)] := by simp [formB, h]
theorem formB_len (c : UInt8) : (formB c).length ≤ 4 := by unfold formB; split <;> simp
theorem formB_pos (c : UInt8) : 1 ≤ (formB c).length := by unfold formB; split <;> simp
theorem formsB_len (l : List UInt8) : (formsB l).length ≤ 4 * l.length := by
  induction l with
  | nil => simp [formsB]
  | cons c l ih => have := formB_len c; simp only [formsB, List.flatMap_cons, List.length_append, List.length_cons] at *; omega
theorem formsB_snoc (l : List UInt8) (k : Nat) (h : k < l.length) : formsB (l.take (k + 1)) = formsB (l.take k) ++ formB l[k] := by
  unfold formsB; rw [List.take_succ_eq_append_getElem h, List.flatMap_append]; simp only [List.flatMap_cons, List.flatMap_nil, List.append_nil]
theorem formsB_take_len (l : List UInt8) (k : Nat) : (formsB (l.take k)).length ≤ 4 * k := by
  have := formsB_len (l.take k)
  have h2 : (l.take k).length ≤ k := List.length_take_le _ _
  omega
theorem quoteB_len (l : List UInt8) : (quoteB l).length ≤ 4 * l.length + 2 := by
  have := formsB_len l; simp [quoteB]; omega
theorem hex_atN (m : Nat) (h : m < hexDigits.length) : hexDigits[m]'h = hexD m := by
  simp [hexD, List.getD, List.getElem?_eq_getElem h]
theorem hex_at (m : Nat) (q : Int) (hq : q.toNat = m) (h : q.toNat < hexDigits.length) : hexDigits[q.toNat]'h = hexD m := by
  subst hq; simp [hexD, List.getD, List.getElem?_eq_getElem h]
theorem plain_step (l : List UInt8) (k : Nat) (h : k < l.length) (ht : (l.take k).all plainC = true) (hp : plainC l[k] = true) : (l.take (k + 1)).all plainC = true := by
  rw [List.take_succ_eq_append_getElem h, List.all_append, ht]; simp [hp]
theorem plain_no (l : List UInt8) (k : Nat) (h : k < l.length) (hp : plainC l[k] = false) : plainB l = false := by
  rw [Bool.eq_false_iff]
  intro hb
  simp only [plainB, Bool.and_eq_true, List.all_eq_true] at hb
  have := hb.2 l[k] (List.getElem_mem h)
  simp [hp] at this
end Go.Proofs.YtbaclgnohnmdgaaDoor
