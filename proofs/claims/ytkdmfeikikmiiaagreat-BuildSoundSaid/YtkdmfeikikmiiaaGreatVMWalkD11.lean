/- Texts put together: WalkB11, WalkA13, WalkB13, WalkA14, WalkB14, WalkC12, WalkC11, WalkD11. -/
import Derived.Test.YtkdmfeikikmiiaaGreatVWalkA11
import Derived.Test.YtkdmfeikikmiiaaGreatVMWalkB05
import Derived.Test.YtkdmfeikikmiiaaGreatVMWalkD07
set_option linter.unusedVariables false
set_option linter.unusedSimpArgs false
namespace Go.Proofs.YtkdmfeikikmiiaaGreat
open Go.RowKit
theorem putF_err {mi mb nx : Int} {l : List Nd} {base p : List UInt8} {k : Int} {data : List UInt8} {rf : Int} {ev : Value} (h : (seekP l base p false).2 ≠ 0) : putF mi mb nx l base p k data rf ev = ((nx, l), (seekP l base p false).2) := by unfold putF; rw [if_pos h]
theorem putF_there {mi mb nx : Int} {l : List Nd} {base p : List UInt8} {k : Int} {data : List UInt8} {rf : Int} {ev : Value} (h : (seekP l base p false).2 = 0) (h2 : (seekP l base p false).1.ino ≠ 0) : putF mi mb nx l base p k data rf ev = ((nx, l), 2) := by unfold putF; rw [if_neg (by simp [h]), if_pos h2]
/-- What the calls ask of a table that is sound. -/
structure Fit (l : List Nd) : Prop where
  calm : Calm l
  few : l.length ≤ 40
  bytes : bytesN l ≤ 1000000
theorem fit_of {mi mb nx : Int} {l : List Nd} (h : okB mi mb nx l = true) : Fit l := by
  have hf := (ok_parts h).1
  have h1 := (few_ents hf).2.1
  refine ⟨calm_of h, h1, ?_⟩
  have := bytesN_few (l := l) (m := 5000) fun x hx => ((calm_of h).size x hx).2.1
  omega
theorem stat_slice {w : World} {v : Value} {l : List Nd} (h : Nds w v l) (base p : List UInt8) (fo : Bool) : ∃ a n c, (statF l base p fo).1.ev = .slice a n c := by
  unfold statF
  split
  · exact ⟨_, _, _, rfl⟩
  split
  · exact ⟨_, _, _, rfl⟩
  · exact get_slice h _
theorem nd_set3 (i k ln : Int) (d e : List UInt8) (p : Int) (v : Value) (n : List Ent) : (ndC ⟨i, k, ln, d, p, v, n⟩).setIfInBounds 3 (.string ⟨e.toArray⟩) = ndC ⟨i, k, ln, e, p, v, n⟩ := rfl
theorem inside_hit {l : List Nd} {d o : Int} {k : Nat} (hk : k ≤ l.length) (h : parN l k d = o) : insideN l d o = true := by
  unfold insideN
  rw [List.any_eq_true]
  exact ⟨k, List.mem_range.2 (by omega), by simpa using h⟩
theorem inside_none {l : List Nd} {d o : Int} (h : ∀ k, k < l.length + 1 → parN l k d ≠ o) : insideN l d o = false := by
  unfold insideN
  rw [List.any_eq_false]
  exact fun k hk => by simpa using h k (List.mem_range.1 hk)
theorem par_succ (l : List Nd) (k : Nat) (d : Int) : parN l (k + 1) d = (getN l (parN l k d)).parent := par_add l k 1 d
theorem nd_set4 (i k ln : Int) (d : List UInt8) (p q : Int) (v : Value) (n : List Ent) : (ndC ⟨i, k, ln, d, p, v, n⟩).setIfInBounds 4 (.int .i64 q) = ndC ⟨i, k, ln, d, q, v, n⟩ := rfl
end Go.Proofs.YtkdmfeikikmiiaaGreat
