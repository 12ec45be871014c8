/- Plain functions on lists of bytes: what the document's own reader does. No walk, no program. -/
import Derived.Test.YthhnkakobjbdlaaPure01b
set_option linter.unusedVariables false
set_option linter.unusedSimpArgs false
namespace Go.Proofs.Ythhnkakobjbdlaa

/-- The reader stands at place 'at' of l and has read o: if l is the form of a text x, o is its beginning, and what was read is o's form. -/
def RefAt (l o : List UInt8) (p : Nat) : Prop := ∀ x, quoteB x = l → ∃ z, x = o ++ z ∧ p = 1 + (formsB o).length

theorem refAt_start (l : List UInt8) : RefAt l [] 1 := fun x _ => ⟨x, rfl, rfl⟩

theorem quoteB_at (o : List UInt8) (b : UInt8) (z : List UInt8) (j : Nat) (hj : j < (formB b).length) : (quoteB (o ++ b :: z))[1 + (formsB o).length + j]? = (formB b)[j]? := by
  have : 1 + (formsB o).length + j = ((formsB o).length + j) + 1 := by omega
  rw [this]
  simp only [quoteB, List.getElem?_cons_succ, formsB_append, formsB_cons, List.append_assoc]
  rw [List.getElem?_append_right (by omega)]
  have e : (formsB o).length + j - (formsB o).length = j := by omega
  rw [e, List.getElem?_append_left hj]

theorem quoteB_length (o : List UInt8) (b : UInt8) (z : List UInt8) : (quoteB (o ++ b :: z)).length = 2 + (formsB o).length + (formB b).length + (formsB z).length := by
  simp [quoteB, formsB_append, formsB_cons]; omega

theorem refAt_ne {l o : List UInt8} {p : Nat} (h : RefAt l o p) (hp : p + 1 < l.length) {x : List UInt8} (hx : quoteB x = l) : ∃ b z, x = o ++ b :: z ∧ p = 1 + (formsB o).length := by
  obtain ⟨z, rfl, hp2⟩ := h x hx
  cases z with
  | cons b z => exact ⟨b, z, rfl, hp2⟩
  | nil =>
    rw [← hx] at hp
    simp [quoteB] at hp
    omega

/-- Four bytes are read. -/
theorem refAt_hex {l o : List UInt8} {p : Nat} (h : RefAt l o p) (hp : p + 3 < l.length) (h92 : l[p]? = some 92) {d1 d2 : UInt8} (e1 : l[p + 2]? = some d1) (e2 : l[p + 3]? = some d2) :
    RefAt l (o ++ [(16 * idx16 d1 + idx16 d2).toUInt8]) (p + 4) := by
  intro x hx
  obtain ⟨b, z, rfl, rfl⟩ := refAt_ne h (by omega) hx
  have g0 := quoteB_at o b z 0 (formB_pos b)
  rw [hx] at g0
  simp only [Nat.add_zero] at g0
  rw [g0] at h92
  cases hb : bareB b
  · have f : formB b = [92, 120, hexD (b.toNat / 16), hexD (b.toNat % 16)] := formB_hex hb
    have hl : (formB b).length = 4 := by rw [f]; rfl
    have g2 := quoteB_at o b z 2 (by omega)
    have g3 := quoteB_at o b z 3 (by omega)
    rw [hx, e1, f] at g2
    rw [hx, e2, f] at g3
    simp at g2 g3
    have h1 : b.toNat / 16 < 16 := by have := b.toNat_lt; omega
    have h2 : b.toNat % 16 < 16 := by omega
    rw [g2, g3, idx16_hexD h1, idx16_hexD h2, byte_split]
    refine ⟨z, by simp, ?_⟩
    rw [formsB_append]
    have : formsB [b] = formB b := by simp [formsB]
    rw [this, List.length_append, hl]; omega
  · rw [formB_bare hb] at h92
    simp at h92
    subst h92
    exact absurd hb (by decide)

/-- One byte is read. -/
theorem refAt_bare {l o : List UInt8} {p : Nat} (h : RefAt l o p) (hp : p + 1 < l.length) {c : UInt8} (hc : l[p]? = some c) (hno : ¬ (c = 92 ∧ p + 3 < l.length)) :
    RefAt l (o ++ [c]) (p + 1) := by
  intro x hx
  obtain ⟨b, z, rfl, rfl⟩ := refAt_ne h hp hx
  have g0 := quoteB_at o b z 0 (formB_pos b)
  rw [hx] at g0
  simp only [Nat.add_zero] at g0
  rw [g0] at hc
  cases hb : bareB b
  · exfalso
    have hl : (formB b).length = 4 := by rw [formB_hex hb]; rfl
    have hq := quoteB_length o b z
    rw [hx] at hq
    rw [formB_hex hb] at hc
    simp at hc
    exact hno ⟨hc.symm, by omega⟩
  · rw [formB_bare hb] at hc
    simp at hc
    subst hc
    refine ⟨z, by simp, ?_⟩
    rw [formsB_append]
    have : formsB [b] = [b] := by simp [formsB, formB_bare hb]
    rw [this]; simp; omega

theorem refAt_end_yes {l o : List UInt8} (hq : quoteB o = l) : unquoteB l = some o := unquoteB_of hq
theorem refAt_end_no {l o : List UInt8} {p : Nat} (h : RefAt l o p) (hp : ¬ p + 1 < l.length) (hq : quoteB o ≠ l) : unquoteB l = none := by
  refine unquoteB_none fun x hx => ?_
  obtain ⟨z, rfl, rfl⟩ := h x hx
  cases z with
  | nil => rw [List.append_nil] at hx; exact hq hx
  | cons b z =>
    have hl := quoteB_length o b z
    have hb := formB_pos b
    rw [hx] at hl
    omega

def nvB (d1 d2 : UInt8) : Nat → Nat
  | 0 => 0
  | 1 => idx16 d1
  | _ => 16 * idx16 d1 + idx16 d2
theorem nvB_le (d1 d2 : UInt8) (j : Nat) : nvB d1 d2 j ≤ 1000 := by
  have h1 := idx16_le d1
  have h2 := idx16_le d2
  match j with
  | 0 => simp [nvB]
  | 1 => simp [nvB]; omega
  | _ + 2 => simp [nvB]; omega
theorem nvB_step {l : List UInt8} {p q : Nat} (h3 : p + 3 < l.length) (h1 : p + 2 ≤ q) (h2 : q < p + 4) : nvB (l[p + 2]'(by omega)) (l[p + 3]'h3) (q + 1 - (p + 2)) = 16 * nvB (l[p + 2]'(by omega)) (l[p + 3]'h3) (q - (p + 2)) + idx16 (l[q]'(by omega)) := by
  rcases (show q = p + 2 ∨ q = p + 3 by omega) with rfl | rfl
  · have e1 : p + 2 + 1 - (p + 2) = 1 := by omega
    have e2 : p + 2 - (p + 2) = 0 := by omega
    rw [e1, e2]; simp [nvB]
  · have e1 : p + 3 + 1 - (p + 2) = 2 := by omega
    have e2 : p + 3 - (p + 2) = 1 := by omega
    rw [e1, e2]; simp [nvB]
end Go.Proofs.Ythhnkakobjbdlaa
