import Derived.Test.YtoejjdebfjepaaaGreatQWalkO11
import Derived.Test.YtoejjdebfjepaaaGreatQMWalkD11
import Derived.Test.YtoejjdebfjepaaaGreatQMWalkB05
import Derived.Test.YtoejjdebfjepaaaGreatQMLawBase05
set_option linter.unusedVariables false
set_option linter.unusedSimpArgs false
/- Walks: the program's New, Mkdir, Create, Symlink. -/
set_option linter.unusedVariables false
set_option linter.unusedSimpArgs false
namespace Go.Proofs.YtoejjdebfjepaaaGreat
open Go.RowKit

theorem next_of {mi mb nx : Int} {l : List Nd} (h : okB mi mb nx l = true) : 0 ≤ nx := by
  have hs := ok_sound h
  have h1 := get_mem hs.root
  have := hs.ino _ h1.1
  omega
theorem size_fits (k : Int) (data : List UInt8) (h : data.length ≤ 20000) : -1099511627776 ≤ sizeK k data ∧ sizeK k data ≤ 1099511627776 := by unfold sizeK; split <;> omega

/-- What a call's own part answers, once the path has led to a place. -/
def shutF (mi mb nx : Int) (l : List Nd) (s : Sp) (k : Int) (data : List UInt8) (rf : Int) (p : List UInt8) (ev : Value) : (Int × List Nd) × Int :=
  if rf ≠ 0 ∧ slashB p = true then ((nx, l), rf) else newF mi mb nx l s k data ev
theorem shut_new {mi mb nx : Int} {l : List Nd} {s : Sp} {k : Int} {data : List UInt8} {rf : Int} {p : List UInt8} {ev : Value} (h : ¬ (rf ≠ 0 ∧ slashB p = true)) : shutF mi mb nx l s k data rf p ev = newF mi mb nx l s k data ev := by unfold shutF; rw [if_neg h]
theorem shut_shut {mi mb nx : Int} {l : List Nd} {s : Sp} {k : Int} {data : List UInt8} {rf : Int} {p : List UInt8} {ev : Value} (h : rf ≠ 0 ∧ slashB p = true) : shutF mi mb nx l s k data rf p ev = ((nx, l), rf) := by unfold shutF; rw [if_pos h]
theorem put_shut {mi mb nx : Int} {l : List Nd} {base p : List UInt8} {k : Int} {data : List UInt8} {rf : Int} {ev : Value} (h : (seekP l base p false).2 = 0) (h2 : (seekP l base p false).1.ino = 0) : putF mi mb nx l base p k data rf ev = shutF mi mb nx l (seekP l base p false).1 k data rf p ev := by
  unfold putF shutF; rw [if_neg (by simp [h]), if_neg (by simp [h2])]

theorem fieldV2 (a s : Bool) (v : Value) (w : World) : (Instr.field 60 (.agg (pathV a v s)) 2).run Tryz.prog w = .ok (.bool s) w := by kernel_rfl
abbrev strC (l : List UInt8) : Array Value := #[.string ⟨l.toArray⟩]

/-- Why no link may have the target; 0, if one may. -/
def symE (t : List UInt8) : Int := if t = [] then 1 else if 4095 < t.length then 7 else if t.contains 0 = true then 9 else 0
theorem index_zero (t : List UInt8) : decide (0 ≤ Lib.indexByte t 0) = t.contains 0 := by
  rw [Bool.eq_iff_iff, decide_eq_true_eq, List.contains_iff_mem]
  constructor
  · intro h
    exact List.mem_of_getElem? (Lib.indexByte_some (l := t) (c := 0) (o := (Lib.indexByte t 0).toNat) (by omega)).1
  · intro h
    obtain ⟨k, hk⟩ := List.mem_iff_getElem?.1 h
    rcases Int.lt_or_le (Lib.indexByte t 0) 0 with h2 | h2
    · have hge := Lib.indexByte_ge t 0
      exact absurd hk (Lib.indexByte_none (by omega) k)
    · exact h2
theorem sym_err {mi mb nx : Int} {l : List Nd} {base t p : List UInt8} {ev : Value} (h : symE t ≠ 0) : symF mi mb nx l base t p ev = ((nx, l), symE t) := by
  unfold symF
  unfold symE at h ⊢
  split
  · rfl
  split
  · rfl
  split
  · rfl
  · rename_i h1 h2 h3
    rw [if_neg h1, if_neg h2, if_neg h3] at h
    exact absurd rfl h
theorem sym_putN {mi mb nx : Int} {l : List Nd} {base t p : List UInt8} {ev : Value} (h : symE t = 0) : symF mi mb nx l base t p ev = putF mi mb nx l base p 3 t 1 ev := by
  unfold symE at h
  unfold symF
  split at h
  · cases h
  split at h
  · cases h
  split at h
  · cases h
  · rename_i h1 h2 h3
    rw [if_neg h1, if_neg h2, if_neg h3]

end Go.Proofs.YtoejjdebfjepaaaGreat
