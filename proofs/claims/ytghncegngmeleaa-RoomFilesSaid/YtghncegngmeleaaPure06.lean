/- What a table's inodes cost, as lists. No program's function. -/
import Derived.Test.YtghncegngmeleaaPure05
namespace Go.Proofs.Ytghncegngmeleaa

def costN (x : Nd) : Nat := if x.kind = 1 then x.data.length else 0
def bytesN : List Nd → Nat
  | [] => 0
  | x :: l => costN x + bytesN l
theorem bytesN_append (a b : List Nd) : bytesN (a ++ b) = bytesN a + bytesN b := by
  induction a with
  | nil => simp [bytesN]
  | cons x l ih => simp [bytesN, ih]; omega
theorem bytesN_next {l : List Nd} {k : Nat} (h : k < l.length) : bytesN (l.take (k + 1)) = bytesN (l.take k) + costN l[k] := by
  rw [List.take_succ_eq_append_getElem h, bytesN_append]; simp [bytesN]
theorem bytesN_take (l : List Nd) (k : Nat) : bytesN (l.take k) ≤ bytesN l := by
  have := bytesN_append (l.take k) (l.drop k)
  rw [List.take_append_drop] at this; omega
theorem bytesN_end (l : List Nd) : bytesN (l.take l.length) = bytesN l := by rw [List.take_length]
theorem costN_le (x : Nd) : costN x ≤ x.data.length := by unfold costN; split <;> omega
theorem costN_no {x : Nd} (h : ¬ x.kind = 1) : costN x = 0 := by simp [costN, h]
theorem costN_yes {x : Nd} (h : x.kind = 1) : costN x = x.data.length := by simp [costN, h]
theorem bytesN_few {l : List Nd} {m : Nat} (h : ∀ x ∈ l, x.data.length ≤ m) : bytesN l ≤ l.length * m := by
  induction l with
  | nil => simp [bytesN]
  | cons x l ih =>
    have h1 := ih fun y hy => h y (by simp [hy])
    have h2 := h x (by simp)
    have h3 := costN_le x
    simp only [bytesN, List.length_cons, Nat.add_mul]; omega
def fitsB (mi mb : Int) (l : List Nd) (i b : Int) : Bool := decide ((l.length : Int) + i ≤ mi) && decide ((bytesN l : Int) + b ≤ mb)

/-- One file more, wherever it is put. -/
theorem bytesN_perm {a b : List Nd} (h : a.Perm b) : bytesN a = bytesN b := by
  induction h with
  | nil => rfl
  | cons x _ ih => simp [bytesN, ih]
  | swap x y l => simp [bytesN]; omega
  | trans _ _ h1 h2 => exact h1.trans h2
theorem ins_perm (x : Nd) (l : List Nd) : (finN x l).Perm (x :: l) := by
  induction l with
  | nil => exact List.Perm.refl _
  | cons e r ih =>
    by_cases h : x.ino < e.ino
    · rw [fin_cons_lt h]
    · rw [fin_cons_ge h]
      exact (List.Perm.cons e ih).trans (List.Perm.swap x e r)
theorem fin_bytes (x : Nd) (l : List Nd) : bytesN (finN x l) = costN x + bytesN l := by rw [bytesN_perm (ins_perm x l)]; rfl
theorem fin_len (x : Nd) (l : List Nd) : (finN x l).length = l.length + 1 := by rw [(ins_perm x l).length_eq]; rfl
theorem filt_not {l : List Nd} {n : Int} (h : hasN l n = false) : l.filter (fun e => e.ino != n) = l := by
  refine filtN_all fun e he => ?_
  have := List.any_eq_false.1 h e he
  simpa [bne] using this
theorem fits_more {mi mb : Int} {l : List Nd} {x : Nd} (hx : x.kind = 1) (i b : Int) : fitsB mi mb (finN x l) i b = fitsB mi mb l (i + 1) (b + (x.data.length : Int)) := by
  unfold fitsB
  rw [fin_len, fin_bytes, costN_yes hx]
  congr 2
  · rw [show ((l.length + 1 : Nat) : Int) + i = (l.length : Int) + (i + 1) from by omega]
  · rw [show ((x.data.length + bytesN l : Nat) : Int) + b = (bytesN l : Int) + (b + (x.data.length : Int)) from by omega]
theorem fits_less {mi mb : Int} {l : List Nd} {i b : Int} (h : fitsB mi mb l (i + 1) b = true) : fitsB mi mb l i b = true := by
  simp only [fitsB, Bool.and_eq_true, decide_eq_true_eq] at h ⊢
  omega
end Go.Proofs.Ytghncegngmeleaa
