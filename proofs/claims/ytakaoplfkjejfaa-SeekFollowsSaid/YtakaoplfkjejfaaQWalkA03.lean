/- The iterator over a path's names: what it hands out, to whatever loop body. -/
import Derived.Test.YtakaoplfkjejfaaQ
import Derived.RangeFuncNested
import Derived.RangeFuncBox
import Derived.RangeFuncBound
import Derived.RangeFuncCalls
import Derived.RangeFuncLeaves
import Derived.Shelf.Abstract
import Derived.Shelf.RegionOpen
import Derived.WalkKit
import Derived.OwnWalkIn
import Derived.TacticsInMore
import Derived.LoopNIn
import Derived.LoopIn
namespace Go.Proofs.Ytakaoplfkjejfaa
open Go.RowKit Go.Shelf
attribute [local go_sem] Oper.semAt_some

/-- A text of no more than so many bytes. -/
abbrev Txt : Type := { x : List UInt8 // x.length ≤ 1000000 }
abbrev txtV (x : Txt) : Array Value := #[.string ⟨x.1.toArray⟩]

def strLen : Value → Nat
  | .string b => b.size
  | _ => 0
theorem atomB_map (x : List UInt8) (h : x.length ≤ 1000000) : ∃ ys : List Txt, ys.map (·.1) = atomB x := by
  by_cases hx : x = []
  · exact ⟨[], by simp [hx, atomB]⟩
  · exact ⟨[⟨x, h⟩], by simp [hx, atomB]⟩

set_option maxRecDepth 100000 in
set_option maxHeartbeats 2000000 in
theorem namesOf1_in (l B : Nat) (p : List UInt8) (hp : p.length ≤ 1000000) (J Jx : List Txt → World → Prop)
    (hJd : ∀ s (A : World) (q : Nat), J s A → J s (A.drewN q))
    (hY : ∀ pre x W, J pre W → pre.length < p.length + 1 → YieldAt Fence.wide (3 - 1 - 1) Try.prog l (txtV x) W fun e W' =>
      (e = .returned (.bool true) ∧ J (pre ++ [x]) W' ∧ True) ∨ (e = .returned (.bool false) ∧ Jx (pre ++ [x]) W'))
    (W : World) (hc : W.cell? ⟨B, 0, none⟩ = some (.string ⟨p.toArray⟩)) (h0 : J [] W) :
    CallsIn Fence.wide (3 - 1) Try.prog 54 #[.func (.yield l) #[] #[], .pointer (some ⟨B, 0, none⟩)] W fun e W' => (∃ v, e = .returned v) ∧
      ((∃ ys : List Txt, ys.map (·.1) = namesB p ∧ J ys W') ∨ (∃ pre : List Txt, pre.map (·.1) <+: namesB p ∧ Jx pre W')) := by
  refine callsIn_of_wp Try.func54 rfl trivial ?_ rfl
  simp only [Try.ntmps54, List.size_toArray, List.length_cons, List.length_nil, Nat.reduceAdd, Nat.reduceSub, Array.replicate_succ, Array.replicate_zero, List.push_toArray, List.append_toArray, List.nil_append, List.cons_append]
  gi_wp2
  gi_loopw [3] (fun s3 wr => ∃ (pre : List Txt) (r : List UInt8), s3 = .string ⟨r.toArray⟩ ∧ pre.length + r.length ≤ p.length ∧ Aside (namesB p = pre.map (·.1) ++ namesB r) ∧ J pre wr) (fun s3 _ => strLen s3)
  case atStart => exact ⟨[], p, rfl, by simp, rfl, h0⟩
  case round =>
    obtain ⟨pre, r, rfl, hlen, HN, hJ⟩ := hrel
    by_cases hr : r = []
    · subst hr
      have HN' : Hid (pre.map (·.1) = namesB p) := by (show _ = _); rw [HN.out, namesB_nil, List.append_nil]
      gi_wp2
      go_end0
      exact ⟨⟨_, rfl⟩, .inl ⟨pre, HN'.out, hJ⟩⟩
    · have hr0 : r.isEmpty = false := by simpa using hr
      gi_wp2_with fail
      refine ⟨trivial, ?_⟩
      gi_at_call 55
      refine (callsIn_wide.2 (Cut_any r _ (by omega))).mono ?_
      rintro e w' ⟨⟨q, rfl⟩, ⟨rfl, hn⟩ | ⟨x, t, rfl, hx, rfl⟩⟩
      · have hJ2 := hJd _ _ q hJ
        have HN2 := Lib.hid (HN.out.trans (by rw [namesB_none r hn, atomB_cons hr]))
        obtain ⟨fn, tmps, assign, body, hy0, hR⟩ := hY pre ⟨r, by omega⟩ _ hJ2 (by omega)
        have hy : (Instr.yield l #[.string ⟨r.toArray⟩]).run Try.prog (wr.drewN q) = .ok (.round l fn tmps assign body) (wr.drewN q) := hy0
        clear hy0
        gi_wp2
        refine hR.mono ?_
        rintro e W3 (⟨rfl, hJ3, hk3⟩ | ⟨rfl, hJx3⟩)
        · gi_wp2
          go_roundw
          case rel => exact ⟨pre ++ [⟨r, by omega⟩], [], rfl, by (have : 0 < r.length := List.length_pos_iff.2 hr); simp; omega, by (show _ = _); rw [HN2.out]; simp [namesB_nil], hJ3⟩
          case measure => simp [strLen, ByteArray.size]; exact List.length_pos_iff.2 hr
        · gi_wp2
          refine bodyPost_ret (results_none rfl _ _ _) rfl ?_
          exact ⟨⟨_, rfl⟩, .inr ⟨pre ++ [⟨r, by omega⟩], by rw [HN2.out]; simp, hJx3⟩⟩
      · have hJ2 := hJd _ _ q hJ
        simp only [List.length_append, List.length_cons] at hlen
        by_cases hxe : x = []
        · subst hxe
          have HN2 := Lib.hid (HN.out.trans (by rw [namesB_found _ _ hx, atomB_nil, List.nil_append]))
          gi_wp2
          refine ⟨fun _ h => (by cases h), ?_⟩
          gi_wp2
          go_roundw
          case rel => exact ⟨pre, t, rfl, by omega, HN2.out, hJ2⟩
          case measure => simp [strLen, ByteArray.size]
        · obtain ⟨c, x, rfl⟩ : ∃ c y, x = c :: y := by cases x with | nil => exact absurd rfl hxe | cons c y => exact ⟨c, y, rfl⟩
          have HN2 := Lib.hid (HN.out.trans (by rw [namesB_found _ _ hx, atomB_cons hxe]))
          obtain ⟨fn, tmps, assign, body, hy0, hR⟩ := hY pre ⟨c :: x, by omega⟩ _ hJ2 (by omega)
          have hy : (Instr.yield l #[.string ⟨(c :: x).toArray⟩]).run Try.prog (wr.drewN q) = .ok (.round l fn tmps assign body) (wr.drewN q) := hy0
          clear hy0
          gi_wp2
          refine hR.mono ?_
          rintro e W3 (⟨rfl, hJ3, hk3⟩ | ⟨rfl, hJx3⟩)
          · gi_wp2
            go_roundw
            case rel => exact ⟨pre ++ [⟨c :: x, by omega⟩], t, rfl, by simp; omega, by (show _ = _); rw [HN2.out]; simp, hJ3⟩
            case measure => simp [strLen, ByteArray.size]; omega
          · gi_wp2
            refine bodyPost_ret (results_none rfl _ _ _) rfl ?_
            exact ⟨⟨_, rfl⟩, .inr ⟨pre ++ [⟨c :: x, by omega⟩], by rw [HN2.out]; exact ⟨namesB t, by simp⟩, hJx3⟩⟩
end Go.Proofs.Ytakaoplfkjejfaa
