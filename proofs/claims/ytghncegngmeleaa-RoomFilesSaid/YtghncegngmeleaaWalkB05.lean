/- Walks: slices.Grow from nil, slices.Concat. -/
import Derived.Test.YtghncegngmeleaaNds05
import Derived.Test.YtghncegngmeleaaChecked
import Derived.OwnWalk
import Derived.Deep.LoopGhost
import Derived.Lib.AppendZerosOnto
import Derived.Lib.SliceRun
import Derived.Lib.Walk
namespace Go.Proofs.Ytghncegngmeleaa
open Go.RowKit

theorem infoN : (Try.prog.info? 32).map (fun i => (i.zero, i.size, i.bytes)) = some (some (.agg #[.int .i64 0, .int .i64 0, .int .i64 0, .string ⟨#[]⟩, .int .i64 0, .slice none 0 0]), 6, 72) := by kernel_rfl

/-- 'append(s, x...)' onto what is the call's own, whatever slice x is. -/
theorem wpList_append_any {P : Program} {w : World} {ops : Array Oper} {rest : List Oper} {o : Oper} {a : Act} {Q : Exit → Act → World → Prop} (hgd : o.guard = none) (s x : Operand) (t e : TypeId)
    (ho : o.op = .call { callee := .builtin .append, args := #[s, x], argTypes := #[t, t] })
    {i : TypeInfo} {z : Value} {size bytes : Nat} (ht : P.underlying t = some (.slice e)) (hi : P.info? e = some i) (hz : i.zero = some z)
    (hsize : i.size = size) (hby : i.bytes = bytes) (hzs : z.cells.size = size) (hsz : 0 < size) (hbs : bytes ≤ 128)
    (base : Nat) {v : Value} {n : Nat} {xs : List Value} (ao : Option Addr) (m c : Nat) (news : List Value) (hs : a.eval s = v) (hx : a.eval x = .slice ao m c) (hown : w.ownsRow base e size v n xs) (hnone : ao = none → m = 0 ∧ c = 0)
    (hm : news.length = m * size) (hc : ∀ ad, ao = some ad → ∀ j u, news[j]? = some u → w.cell? (ad.add j) = some u) (h1 : ∀ u ∈ news, u.oneCell' = true) (hb : n + m ≤ 1099511627776) (hbase : base ≤ w.heap.size)
    (hK : ∀ v' w', w'.ownsRow base e size v' (n + m) (xs ++ news) → Below base w w' → wpList P ops Q rest (a.put o.dst v') w') :
    wpList P ops Q (o :: rest) a w := by
  cases ao with
  | some ad =>
    refine wpList_append_own _ hgd s x t ho base e i z size bytes ht hi hz hsize hby hzs hsz v n xs hs hown ad m c news hx hm (hc ad rfl) h1 (by unfold maxLen; omega) ?_ hbase ?_
    · calc (n + m) * bytes ≤ 1099511627776 * 128 := Nat.mul_le_mul hb hbs
        _ ≤ 140737488355328 := by decide
    · intro v' w' h2 h3 _
      exact hK v' w' h2 (own_below hown h3 hbase)
  | none =>
    obtain ⟨rfl, rfl⟩ := hnone rfl
    have hnews : news = [] := List.eq_nil_of_length_eq_zero (by simpa using hm)
    subst hnews
    refine wpList_plain hgd fun K hK' => ?_
    have hrun := run_append_owned_none (P := P) w base t o.type e i size ht hi _ n xs hown
    unfold Oper.wp
    simp [execOp, ho, resolve, invoke, builtin, hs, hx, hrun, Result.andThen]
    exact hK' _ _ (by simpa using hK v w (by simpa using hown) (Below.refl _ _))

/-- A slice of slices of inodes. -/
def PartsN (w : World) (v : Value) (ps : List (List Nd)) : Prop :=
  ∃ a cap, v = .slice a ps.length cap ∧ (0 < ps.length → ∃ b off, a = some ⟨b, off, none⟩ ∧ b < w.heap.size ∧ ∀ i (h : i < ps.length), ∃ x, w.cell? ⟨b, off + i, none⟩ = some x ∧ Nds w x ps[i])

theorem flatP_take (ps : List (List Nd)) (k : Nat) (h : k < ps.length) : (ps.take (k + 1)).flatten = (ps.take k).flatten ++ ps[k] := by
  rw [List.take_succ_eq_append_getElem h, List.flatten_append]; simp
def flatK (ps : List (List Nd)) (k : Nat) : Nat := (ps.take k).flatten.length
theorem flatK_next {ps : List (List Nd)} {k : Nat} (h : k < ps.length) : flatK ps (k + 1) = flatK ps k + ps[k].length := by
  unfold flatK; rw [flatP_take ps k h, List.length_append]
theorem flatK_le (ps : List (List Nd)) (k : Nat) : flatK ps k ≤ ps.flatten.length := by
  unfold flatK; conv => rhs; rw [← List.take_append_drop k ps, List.flatten_append, List.length_append]
  omega
theorem flatK_end (ps : List (List Nd)) : flatK ps ps.length = ps.flatten.length := by unfold flatK; rw [List.take_length]

/-- What is new: an owned row of inodes. -/
def NewNds (w : World) (L : List Nd) (v : Value) (w' : World) : Prop := w'.ownsRow w.heap.size 32 6 v L.length (ndsV L) ∧ Below w.heap.size w w'

end Go.Proofs.Ytghncegngmeleaa
