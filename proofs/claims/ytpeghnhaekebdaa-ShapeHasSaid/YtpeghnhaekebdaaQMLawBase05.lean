/- Texts put together: HeldIn, Cut, WalkA03, Clone, WalkB03, WalkD03, BoxRow08, Builder, WalkE03, CopyN, WalkE04, WalkA06, LawBase05. -/
import Derived.Test.YtpeghnhaekebdaaQMSeq08
import Derived.OrdersIn
import Derived.OwnWalkIn
import Derived.Test.YtpeghnhaekebdaaQMWalkC05
import Derived.Test.YtpeghnhaekebdaaChecked
import Derived.Shelf.RegionOpenPlain
import Derived.Deep.Draws
import Derived.Laws.Strings3
import Derived.BigGuard
import Derived.BigQuiet
import Derived.StillTailTactics
import Derived.RangeFuncNested
import Derived.RangeFuncBox
import Derived.RangeFuncBound
import Derived.RangeFuncCalls
import Derived.RangeFuncLeaves
import Derived.Shelf.Abstract
import Derived.Shelf.RegionOpen
import Derived.WalkKit
import Derived.TacticsInMore
import Derived.LoopNIn
import Derived.LoopIn
import Derived.Shelf.Strings.Builder1
import Derived.Lib.Builder
import Derived.Lib.AppendStr
import Derived.RangeFuncRecord
import Derived.Deep.LoopGhost
import Derived.Laws.CopyOwn
import Derived.Below
import Derived.OwnWalk
import Derived.Deep.RegionHeld3
import Derived.Test.YtpeghnhaekebdaaRows
import Derived.ProofKit
import Derived.OpenShut
import Derived.ShutString
import Derived.ChangeOld
import Derived.SizedLaws
import Derived.Deep.SlicePairs
import Derived.Lib.SmallJoins
set_option linter.unusedVariables false
set_option linter.unusedSimpArgs false
/- A region that draws its order, inside a fence that lets every function in (a round's too): loads taken first where a condition on the world holds ('wpAnyH' of the library, fenced). -/
set_option linter.unusedVariables false
set_option linter.unusedSimpArgs false
namespace Go.Proofs.Ytpeghnhaekebdaa

def noDefer (ops : Array Oper) : Bool := ops.all fun o => match o.op with | .defer _ => false | _ => true
theorem noDefer_spec {ops : Array Oper} (h : noDefer ops = true) : ∀ (j : Nat) (o : Oper), ops[j]? = some o → ∀ c, o.op ≠ .defer c := by
  intro j o ho c hc
  obtain ⟨hj, rfl⟩ := Array.getElem?_eq_some_iff.1 ho
  have := Array.all_eq_true.1 h j hj
  rw [hc] at this
  cases this

section
variable {F : Fence} {n : Nat} {P : Program} {ops : Array Oper} {Q : Exit → Act → World → Prop} {md : Region.Mode} {S : World → Prop}

theorem yieldsG {i : Nat} {o : Oper} {v : Value} {a : Act} (hfn : ∀ f, F.fn f) (hnd : ∀ c, o.op ≠ .defer c) (hi : ops[i]? = some o) (hy : YieldsIf P ops S o v a)
    {K : Act → World → Prop} {w : World} (hS : S w) (h : K (a.put o.dst v) w) : wpOpIn F n P ops Q i K a w := by
  unfold Go.wpOpIn
  simp only [hi]
  rcases hy with ⟨hw, hv⟩ | ⟨hw, rfl⟩
  · simp only [hw, if_true, Oper.wpIn]
    rw [Oper.semAt_plain F _ _ hnd, hv w hS]
    exact ⟨fun f _ => hfn f, h⟩
  · simp only [hw, Bool.false_eq_true, if_false]; exact ⟨fun f _ => hfn f, h⟩

theorem wpOpIn_putG {j : Nat} {oi oj : Oper} {v : Value} (hfn : ∀ f, F.fn f) (hnd : ∀ c, oj.op ≠ .defer c) (hj : ops[j]? = some oj) (hap : oi.apart ops oj = true)
    (hsi : ∀ cs b, oi.op ≠ .select cs b) (hsj : ∀ cs b, oj.op ≠ .select cs b)
    (hQ : ∀ c a w, Q (.panic c) (a.put oi.dst v) w → Q (.panic c) a w) {K : Act → World → Prop} {a : Act} {w : World}
    (hy : YieldsIf P ops S oi v a) (h : wpOpIn F n P ops Q j K (a.put oi.dst v) w) :
    wpOpIn F n P ops Q j (fun a' w' => YieldsIf P ops S oi v a' ∧ K (a'.put oi.dst v) w') a w := by
  obtain ⟨h1, h2, h3⟩ := Oper.apart_spec hap
  have keep : ∀ (a : Act), YieldsIf P ops S oi v a → ∀ u, YieldsIf P ops S oi v (a.put oj.dst u) := fun a hy u =>
    hy.of_same (execOp_put oi hsi a oj.dst u h3) (wanted_put oi a oj.dst u h3)
  have keepD : ∀ d, YieldsIf P ops S oi v { a with defers := d :: a.defers } := fun d => hy.of_same rfl rfl
  unfold Go.wpOpIn at *
  simp only [hj] at *
  rw [wanted_put oj a oi.dst v h1] at h
  split
  · rename_i hw
    simp only [hw, if_true] at h
    unfold Oper.wpIn at *
    refine ⟨fun f _ => hfn f, ?_⟩
    have h := h.2
    rw [Oper.semAt_plain F _ _ hnd, execOp_put oj hsj a oi.dst v h1] at h
    rw [Oper.semAt_plain F _ _ hnd]
    generalize (execOp a.eval oj).run P w = r at *
    cases r with
    | ok x w' =>
      cases x <;> simp only [Oper.uponIn] at h ⊢
      case value u => exact ⟨keep a hy u, by rw [← Act.put_comm a v u h2]; exact h⟩
      case skip => exact ⟨keep a hy _, by rw [← Act.put_comm a v undef h2]; exact h⟩
      case defer d =>
        refine ⟨keep _ (keepD d) _, ?_⟩
        rw [← Act.put_comm _ v undef h2, ← Act.put_defers]
        exact h
      case enter f args =>
        refine ⟨h.1, CallsIn.mono h.2 fun e w'' he => ?_⟩
        cases e with
        | returned u => exact ⟨keep a hy u, by rw [← Act.put_comm a v u h2]; exact he⟩
        | panicked c => exact hQ _ _ _ he
        | outgrown => exact he
      case row row args => exact ⟨h.1, RowsIn.mono h.2 fun u w'' he => ⟨keep a hy u, by rw [← Act.put_comm a v u h2]; exact he⟩⟩
      case round l f tmps assign body =>
        refine ⟨h.1, RoundIn.mono h.2 fun e w'' he => ?_⟩
        cases e with
        | returned u => exact ⟨keep a hy u, by rw [← Act.put_comm a v u h2]; exact he⟩
        | panicked c => exact hQ _ _ _ he
        | outgrown => exact he
    | halt x w' =>
      cases x <;> simp only [Oper.uponIn] at h ⊢
      case panic u => exact hQ _ _ _ h
  · rename_i hw
    simp only [hw] at h
    exact ⟨fun f _ => hfn f, keep a hy _, by rw [← Act.put_comm a v undef h2]; exact h.2⟩

/-- Whatever order is picked from here on, and S holds behind every operation that is carried out. -/
def wpAnyG (F : Fence) (n : Nat) (P : Program) (md : Region.Mode) (ops : Array Oper) (Q : Exit → Act → World → Prop) (S : World → Prop) : Nat → Array Bool → Act → World → Prop
  | 0, listed, a, w => Region.ready md ops listed = [] ∧ Q .normal a w
  | fuel + 1, listed, a, w =>
    (Region.ready md ops listed = [] → Q .normal a w) ∧
    ∀ i ∈ Region.ready md ops listed, wpOpIn F n P ops Q i (fun a' w' => S w' ∧ wpAnyG F n P md ops Q S fuel (listed.setIfInBounds i true) a' w') a w
theorem wpAnyIn_of_held : ∀ (fuel : Nat) (listed : Array Bool) (a : Act) (w : World), wpAnyG F n P md ops Q S fuel listed a w → wpAnyIn F n P md ops Q fuel listed a w
  | 0, _, _, _, h => h
  | fuel + 1, _, _, _, h => ⟨h.1, fun i hi => wpOpIn_mono (fun a' w' h' => wpAnyIn_of_held fuel _ a' w' h'.2) (h.2 i hi)⟩
theorem wpAnyG_first {i : Nat} {oi : Oper} {v : Value} (hfn : ∀ f, F.fn f) (hnd : ∀ (j : Nat) (o : Oper), ops[j]? = some o → ∀ c, o.op ≠ .defer c) (hi : ops[i]? = some oi) (hsel : ∀ (j : Nat) (o : Oper) cs b, ops[j]? = some o → o.op ≠ .select cs b)
    (hQ : ∀ c a w, Q (.panic c) (a.put oi.dst v) w → Q (.panic c) a w) :
    ∀ (fuel : Nat) (listed : Array Bool) (a : Act) (w : World),
      (∀ j oj, ops[j]? = some oj → j ≠ i → listed.getD j true = false → (∀ e ∈ oj.after, Region.binds md e = true → e.on ≠ i) → oi.apart ops oj = true) →
      i ∈ Region.ready md ops listed → YieldsIf P ops S oi v a → S w →
      wpAnyG F n P md ops Q S fuel (listed.setIfInBounds i true) (a.put oi.dst v) w → wpAnyG F n P md ops Q S (fuel + 1) listed a w := by
  intro fuel
  induction fuel with
  | zero =>
    intro listed a w _ hr hy hS H
    refine ⟨fun h => (by rw [h] at hr; cases hr), fun j hj => ?_⟩
    by_cases hji : j = i
    · subst hji; exact yieldsG hfn (hnd _ _ hi) hi hy hS ⟨hS, H⟩
    · have := ready_mono hj hji
      rw [H.1] at this
      cases this
  | succ fuel ih =>
    intro listed a w hfree hr hy hS H
    refine ⟨fun h => (by rw [h] at hr; cases hr), fun j hj => ?_⟩
    by_cases hji : j = i
    · subst hji; exact yieldsG hfn (hnd _ _ hi) hi hy hS ⟨hS, H⟩
    · have h1 := H.2 j (ready_mono hj hji)
      obtain ⟨hjun, oj, hoj, hall⟩ := mem_ready.1 hj
      have hnot : ∀ e ∈ oj.after, Region.binds md e = true → e.on ≠ i := fun e he hb heq => by
        have h1 := hall e he hb
        have h0 := (mem_ready.1 hr).1
        rw [heq] at h1
        rcases Nat.lt_or_ge i listed.size with h' | h'
        · simp [h'] at h0 h1; rw [h0] at h1; cases h1
        · simp [Array.getElem?_eq_none h'] at h1
      have h2 := wpOpIn_putG hfn (hnd _ _ hoj) hoj (hfree j oj hoj hji hjun hnot) (fun cs b => hsel i oi cs b hi) (fun cs b => hsel j oj cs b hoj) hQ hy h1
      have hfree' : ∀ k ok, ops[k]? = some ok → k ≠ i → (listed.setIfInBounds j true).getD k true = false →
          (∀ e ∈ ok.after, Region.binds md e = true → e.on ≠ i) → oi.apart ops ok = true := fun k ok hk hki hun hno => by
        refine hfree k ok hk hki ?_ hno
        by_cases hjk : j = k
        · subst hjk; exact hjun
        · rw [getD_set_ne true hjk] at hun; exact hun
      refine wpOpIn_mono (fun a' w' h3 => ⟨h3.2.1, ih (listed.setIfInBounds j true) a' w' hfree' (ready_mono hr (Ne.symm hji)) h3.1 h3.2.1 ?_⟩) h2
      rw [Array.setIfInBounds_comm _ _ hji]
      exact h3.2.2

/-- The beginning. -/
theorem wpIn_region_heldG (S : World → Prop) {id : Nat} {a : Act} {w : World} (hm : P.follows .mixedOrders = true) (hS : S w.drew)
    (h : S w.drew → wpAnyG F n P .any ops Q S ops.size (Array.replicate ops.size false) a w.drew) : (Code.region id ops true).wpIn F n P Q a w :=
  wpIn_region_any hm (wpAnyIn_of_held _ _ _ _ (h hS))
theorem takeG (i : Nat) (d : Option Tmp) {oi : Oper} {v : Value} {fuel : Nat} {listed : Array Bool} {a : Act} {w : World} (hfn : ∀ f, F.fn f) (hnd : noDefer ops = true) (hi : ops[i]? = some oi) (hd : oi.dst = d)
    (hs : Region.noSelect ops = true) (hf : Region.free md ops listed i = true) (hr : (Region.ready md ops listed).contains i = true)
    (hQ : ∀ c a w, Q (.panic c) (a.put d v) w → Q (.panic c) a w) (hw : Region.wanted oi (yielded ops a.tmps) = true) (hv : ∀ w, S w → (execOp a.eval oi).run P w = .ok (.value v) w) (hS : S w)
    (h : wpAnyG F n P md ops Q S fuel (listed.setIfInBounds i true) (a.put d v) w) : wpAnyG F n P md ops Q S (fuel + 1) listed a w := by
  subst hd
  exact wpAnyG_first hfn (noDefer_spec hnd) hi (Region.noSelect_spec hs) hQ fuel listed a w (Region.free_spec hi hf) (by simpa using hr) (.inl ⟨hw, hv⟩) hS h
theorem skipG (i : Nat) (d : Option Tmp) {oi : Oper} {fuel : Nat} {listed : Array Bool} {a : Act} {w : World} (hfn : ∀ f, F.fn f) (hnd : noDefer ops = true) (hi : ops[i]? = some oi) (hd : oi.dst = d)
    (hs : Region.noSelect ops = true) (hf : Region.free md ops listed i = true) (hr : (Region.ready md ops listed).contains i = true)
    (hQ : ∀ c a w, Q (.panic c) (a.put d undef) w → Q (.panic c) a w) (hw : Region.wanted oi (yielded ops a.tmps) = false) (hS : S w)
    (h : wpAnyG F n P md ops Q S fuel (listed.setIfInBounds i true) (a.put d undef) w) : wpAnyG F n P md ops Q S (fuel + 1) listed a w := by
  subst hd
  exact wpAnyG_first hfn (noDefer_spec hnd) hi (Region.noSelect_spec hs) hQ fuel listed a w (Region.free_spec hi hf) (by simpa using hr) (.inr ⟨hw, rfl⟩) hS h
def AllReadyG (F : Fence) (n : Nat) (P : Program) (md : Region.Mode) (ops : Array Oper) (Q : Exit → Act → World → Prop) (S : World → Prop) (fuel : Nat) (listed : Array Bool) (a : Act) (w : World) (rs : List Nat) : Prop :=
  ∀ i ∈ rs, wpOpIn F n P ops Q i (fun a' w' => S w' ∧ wpAnyG F n P md ops Q S fuel (listed.setIfInBounds i true) a' w') a w
theorem AllReadyG.nil {fuel : Nat} {listed : Array Bool} {a : Act} {w : World} : AllReadyG F n P md ops Q S fuel listed a w [] := fun _ h => by cases h
theorem AllReadyG.cons {fuel : Nat} {listed : Array Bool} {a : Act} {w : World} {i : Nat} {o : Oper} {rs : List Nat} (ho : ops[i]? = some o)
    (h : ∀ K' : Act → World → Prop, Shut (∀ a w, S w → (S w → wpAnyG F n P md ops Q S fuel (listed.setIfInBounds i true) a w) → K' a w) → if Region.wanted o (yielded ops a.tmps) = true then Oper.wpIn F n P o a w K' Q else (∀ f, o.about P w a.eval = some f → F.fn f) ∧ K' (a.put o.dst undef) w)
    (hs : AllReadyG F n P md ops Q S fuel listed a w rs) : AllReadyG F n P md ops Q S fuel listed a w (i :: rs) := fun j hj => by
  rcases List.mem_cons.1 hj with rfl | hj
  · exact wpOpIn_step ho (fun K' hK => h K' (fun a w hS hW => hK a w ⟨hS, hW hS⟩))
  · exact hs j hj
theorem readyG {rs : List Nat} {fuel : Nat} {listed : Array Bool} {a : Act} {w : World} (hr : Region.ready md ops listed = rs) (hne : rs ≠ [])
    (h : AllReadyG F n P md ops Q S fuel listed a w rs) : wpAnyG F n P md ops Q S (fuel + 1) listed a w :=
  ⟨fun h0 => absurd (hr ▸ h0) hne, hr ▸ h⟩
theorem doneG {listed : Array Bool} {a : Act} {w : World} (hr : Region.ready md ops listed = []) (h : Q .normal a w) :
    ∀ fuel, wpAnyG F n P md ops Q S fuel listed a w
  | 0 => ⟨hr, h⟩
  | _ + 1 => ⟨fun _ => h, by rw [hr]; simp⟩
end
end Go.Proofs.Ytpeghnhaekebdaa

/- strings.Cut at one slash. -/
set_option linter.unusedVariables false
set_option linter.unusedSimpArgs false
namespace Go.Proofs.Ytpeghnhaekebdaa
open Go.RowKit

theorem cut_cases (l : List UInt8) : (Lib.indexByte l 47 = -1 ∧ 47 ∉ l) ∨ ∃ x r, l = x ++ 47 :: r ∧ 47 ∉ x ∧ Lib.indexByte l 47 = (x.length : Int) := by
  induction l with
  | nil => left; exact ⟨rfl, by simp⟩
  | cons c l ih =>
    by_cases hc : c = 47
    · subst hc; right; exact ⟨[], l, rfl, by simp, by simp [Lib.indexByte]⟩
    · have hb : (c == 47) = false := by simpa using hc
      rcases ih with ⟨h1, h2⟩ | ⟨x, r, rfl, hx, h⟩
      · left
        refine ⟨by simp [Lib.indexByte, hb, h1], ?_⟩
        simp only [List.mem_cons, not_or]
        exact ⟨fun e => hc e.symm, h2⟩
      · right
        refine ⟨c :: x, r, rfl, ?_, ?_⟩
        · simp only [List.mem_cons, not_or]
          exact ⟨fun e => hc e.symm, hx⟩
        · have hne : (Lib.indexByte (x ++ 47 :: r) 47 == -1) = false := by rw [h, beq_eq_false_iff_ne]; omega
          simp only [Lib.indexByte, hb, Bool.false_eq_true, if_false, hne, h]
          simp

theorem lcut_none (l : List UInt8) (w : World) (h : Lib.indexByte l 47 = -1) :
    Calls Try.prog 70 #[.string ⟨l.toArray⟩, .string ⟨#[47]⟩] w fun e w' => e = .returned (.tuple #[.string ⟨l.toArray⟩, .string ⟨#[]⟩, .bool false]) ∧ w' = w := by
  go_enter Try.func70, Try.ntmps70
  go_wp2_with fail
  refine (Try.stringslite_Index_one ⟨l.toArray⟩ 47 _).mono ?_
  rintro e w' ⟨rfl, rfl⟩
  rw [show Lib.indexByte (ByteArray.mk l.toArray).data.toList 47 = -1 from h]
  go_wp2
  go_ret3
  exact ⟨rfl, rfl⟩

theorem lcut_some (x r : List UInt8) (w : World) (hl : x.length + r.length ≤ 1000000000) (h : Lib.indexByte (x ++ 47 :: r) 47 = (x.length : Int)) :
    Calls Try.prog 70 #[.string ⟨(x ++ 47 :: r).toArray⟩, .string ⟨#[47]⟩] w fun e w' => e = .returned (.tuple #[.string ⟨x.toArray⟩, .string ⟨r.toArray⟩, .bool true]) ∧ ∃ n, w' = w.drewN n := by
  have c1 : (0 : Int) ≤ (x.length : Int) := by omega
  have c2 : (x.length : Int) ≤ (((ByteArray.mk (x ++ 47 :: r).toArray).size : Nat) : Int) := by simp [ByteArray.size]; omega
  have c3 : (0 : Int) ≤ (x.length : Int) + 1 := by omega
  have c4 : (x.length : Int) + 1 ≤ (((ByteArray.mk (x ++ 47 :: r).toArray).size : Nat) : Int) := by simp [ByteArray.size]; omega
  have hlim : (((ByteArray.mk (x ++ 47 :: r).toArray).size : Nat) : Int) ≤ 2000000000 := by simp [ByteArray.size]; omega
  have e1 : (ByteArray.mk (x ++ 47 :: r).toArray).extract 0 x.length = ⟨x.toArray⟩ := by
    rw [Lib.extract_eq]; simp
  have e2 : (ByteArray.mk (x ++ 47 :: r).toArray).extract (x.length + 1) (ByteArray.mk (x ++ 47 :: r).toArray).size = ⟨r.toArray⟩ := by
    have hd : List.drop (x.length + 1) (x ++ 47 :: r) = r := by
      rw [show x ++ 47 :: r = (x ++ [47]) ++ r from by simp, show x.length + 1 = (x ++ [47]).length from by simp, List.drop_left]
    rw [Lib.extract_eq]
    show ByteArray.mk (List.take ((x ++ 47 :: r).toArray.size - (x.length + 1)) (List.drop (x.length + 1) (x ++ 47 :: r).toArray.toList)).toArray = _
    rw [List.toList_toArray, hd, List.size_toArray, List.length_append, List.length_cons, List.take_of_length_le (by omega)]
  have E1 := Lib.hid e1
  have E2 := Lib.hid e2
  clear e1 e2
  generalize hs : ByteArray.mk (x ++ 47 :: r).toArray = s at *
  go_enter Try.func70, Try.ntmps70
  go_wp2_with fail
  refine (Try.stringslite_Index_one s 47 _).mono ?_
  rintro e w' ⟨rfl, rfl⟩
  rw [show Lib.indexByte s.data.toList 47 = (x.length : Int) from by rw [← hs]; exact h]
  go_wp2
  go_quiet (fail)
  go_wp2
  go_ret3
  refine ⟨?_, _, rfl⟩
  show Ending.returned (Value.tuple #[.string (s.extract 0 x.length), .string (s.extract (x.length + 1) s.size), .bool true]) = _
  rw [E1.out, E2.out]


/-- What lies ahead of the first slash, and what behind it; all of it where there is none. -/
def CutPost (l : List UInt8) (w : World) (e : Ending) (w' : World) : Prop :=
  (∃ n, w' = w.drewN n) ∧ ((e = .returned (.tuple #[.string ⟨l.toArray⟩, .string ⟨#[]⟩, .bool false]) ∧ 47 ∉ l) ∨
    ∃ x r, l = x ++ 47 :: r ∧ 47 ∉ x ∧ e = .returned (.tuple #[.string ⟨x.toArray⟩, .string ⟨r.toArray⟩, .bool true]))
theorem Cut_any (l : List UInt8) (w : World) (hl : l.length ≤ 1000000) :
    Calls Try.prog 66 #[.string ⟨l.toArray⟩, .string ⟨#[47]⟩] w (CutPost l w) := by
  rcases cut_cases l with ⟨h, hn⟩ | ⟨x, r, rfl, hx, h⟩
  · go_enter Try.func66, Try.ntmps66
    go_wp2_with fail; refine (lcut_none l _ h).mono ?_; rintro e w' ⟨rfl, rfl⟩
    go_wp2
    go_ret3
    exact ⟨⟨0, rfl⟩, .inl ⟨rfl, hn⟩⟩
  · go_enter Try.func66, Try.ntmps66
    go_wp2_with fail; refine (lcut_some x r _ (by simp at hl; omega) h).mono ?_; rintro e w' ⟨rfl, n, rfl⟩
    go_wp2
    go_ret3
    exact ⟨⟨n, rfl⟩, .inr ⟨x, r, rfl, hx, rfl⟩⟩
end Go.Proofs.Ytpeghnhaekebdaa

/- The iterator over a path's names: what it hands out, to whatever loop body. -/
set_option linter.unusedVariables false
set_option linter.unusedSimpArgs false
namespace Go.Proofs.Ytpeghnhaekebdaa
open Go.RowKit Go.Shelf
attribute [local go_sem] Oper.semAt_some

/-- A text of no more than so many bytes. -/
abbrev Txt : Type := { x : List UInt8 // x.length ≤ 1000000 }
abbrev txtV (x : Txt) : Array Value := #[.string ⟨x.1.toArray⟩]

def strLen : Value → Nat
  | .string b => b.size
  | _ => 0
theorem atomB_map (x : List UInt8) (h : x.length ≤ 1000000) : ∃ ys : List Txt, ys.map (·.1) = atomB x := by
  by_cases hx : x = []
  · exact ⟨[], by simp [hx, atomB]⟩
  · exact ⟨[⟨x, h⟩], by simp [hx, atomB]⟩

set_option maxRecDepth 100000 in
set_option maxHeartbeats 2000000 in
theorem namesOf1_in (l B : Nat) (p : List UInt8) (hp : p.length ≤ 1000000) (J Jx : List Txt → World → Prop)
    (hJd : ∀ s (A : World) (q : Nat), J s A → J s (A.drewN q))
    (hY : ∀ pre x W, J pre W → pre.length < p.length + 1 → YieldAt Fence.wide (3 - 1 - 1) Try.prog l (txtV x) W fun e W' =>
      (e = .returned (.bool true) ∧ J (pre ++ [x]) W' ∧ True) ∨ (e = .returned (.bool false) ∧ Jx (pre ++ [x]) W'))
    (W : World) (hc : W.cell? ⟨B, 0, none⟩ = some (.string ⟨p.toArray⟩)) (h0 : J [] W) :
    CallsIn Fence.wide (3 - 1) Try.prog 65 #[.func (.yield l) #[] #[], .pointer (some ⟨B, 0, none⟩)] W fun e W' => (∃ v, e = .returned v) ∧
      ((∃ ys : List Txt, ys.map (·.1) = namesB p ∧ J ys W') ∨ (∃ pre : List Txt, pre.map (·.1) <+: namesB p ∧ Jx pre W')) := by
  refine callsIn_of_wp Try.func65 rfl trivial ?_ rfl
  simp only [Try.ntmps65, List.size_toArray, List.length_cons, List.length_nil, Nat.reduceAdd, Nat.reduceSub, Array.replicate_succ, Array.replicate_zero, List.push_toArray, List.append_toArray, List.nil_append, List.cons_append]
  gi_wp2
  gi_loopw [3] (fun s3 wr => ∃ (pre : List Txt) (r : List UInt8), s3 = .string ⟨r.toArray⟩ ∧ pre.length + r.length ≤ p.length ∧ Aside (namesB p = pre.map (·.1) ++ namesB r) ∧ J pre wr) (fun s3 _ => strLen s3)
  case atStart => exact ⟨[], p, rfl, by simp, rfl, h0⟩
  case round =>
    obtain ⟨pre, r, rfl, hlen, HN, hJ⟩ := hrel
    by_cases hr : r = []
    · subst hr
      have HN' : Hid (pre.map (·.1) = namesB p) := by (show _ = _); rw [HN.out, namesB_nil, List.append_nil]
      gi_wp2
      go_end0
      exact ⟨⟨_, rfl⟩, .inl ⟨pre, HN'.out, hJ⟩⟩
    · have hr0 : r.isEmpty = false := by simpa using hr
      gi_wp2_with fail
      refine ⟨trivial, ?_⟩
      gi_at_call 66
      refine (callsIn_wide.2 (Cut_any r _ (by omega))).mono ?_
      rintro e w' ⟨⟨q, rfl⟩, ⟨rfl, hn⟩ | ⟨x, t, rfl, hx, rfl⟩⟩
      · have hJ2 := hJd _ _ q hJ
        have HN2 := Lib.hid (HN.out.trans (by rw [namesB_none r hn, atomB_cons hr]))
        obtain ⟨fn, tmps, assign, body, hy0, hR⟩ := hY pre ⟨r, by omega⟩ _ hJ2 (by omega)
        have hy : (Instr.yield l #[.string ⟨r.toArray⟩]).run Try.prog (wr.drewN q) = .ok (.round l fn tmps assign body) (wr.drewN q) := hy0
        clear hy0
        gi_wp2
        refine hR.mono ?_
        rintro e W3 (⟨rfl, hJ3, hk3⟩ | ⟨rfl, hJx3⟩)
        · gi_wp2
          go_roundw
          case rel => exact ⟨pre ++ [⟨r, by omega⟩], [], rfl, by (have : 0 < r.length := List.length_pos_iff.2 hr); simp; omega, by (show _ = _); rw [HN2.out]; simp [namesB_nil], hJ3⟩
          case measure => simp [strLen, ByteArray.size]; exact List.length_pos_iff.2 hr
        · gi_wp2
          refine bodyPost_ret (results_none rfl _ _ _) rfl ?_
          exact ⟨⟨_, rfl⟩, .inr ⟨pre ++ [⟨r, by omega⟩], by rw [HN2.out]; simp, hJx3⟩⟩
      · have hJ2 := hJd _ _ q hJ
        simp only [List.length_append, List.length_cons] at hlen
        by_cases hxe : x = []
        · subst hxe
          have HN2 := Lib.hid (HN.out.trans (by rw [namesB_found _ _ hx, atomB_nil, List.nil_append]))
          gi_wp2
          refine ⟨fun _ h => (by cases h), ?_⟩
          gi_wp2
          go_roundw
          case rel => exact ⟨pre, t, rfl, by omega, HN2.out, hJ2⟩
          case measure => simp [strLen, ByteArray.size]
        · obtain ⟨c, x, rfl⟩ : ∃ c y, x = c :: y := by cases x with | nil => exact absurd rfl hxe | cons c y => exact ⟨c, y, rfl⟩
          have HN2 := Lib.hid (HN.out.trans (by rw [namesB_found _ _ hx, atomB_cons hxe]))
          obtain ⟨fn, tmps, assign, body, hy0, hR⟩ := hY pre ⟨c :: x, by omega⟩ _ hJ2 (by omega)
          have hy : (Instr.yield l #[.string ⟨(c :: x).toArray⟩]).run Try.prog (wr.drewN q) = .ok (.round l fn tmps assign body) (wr.drewN q) := hy0
          clear hy0
          gi_wp2
          refine hR.mono ?_
          rintro e W3 (⟨rfl, hJ3, hk3⟩ | ⟨rfl, hJx3⟩)
          · gi_wp2
            go_roundw
            case rel => exact ⟨pre ++ [⟨c :: x, by omega⟩], t, rfl, by simp; omega, by (show _ = _); rw [HN2.out]; simp, hJ3⟩
            case measure => simp [strLen, ByteArray.size]; omega
          · gi_wp2
            refine bodyPost_ret (results_none rfl _ _ _) rfl ?_
            exact ⟨⟨_, rfl⟩, .inr ⟨pre ++ [⟨c :: x, by omega⟩], by rw [HN2.out]; exact ⟨namesB t, by simp⟩, hJx3⟩⟩
end Go.Proofs.Ytpeghnhaekebdaa

/- strings.Clone: the same bytes. -/
set_option linter.unusedVariables false
set_option linter.unusedSimpArgs false
namespace Go.Proofs.Ytpeghnhaekebdaa
open Go.RowKit

theorem Clone_any (l : List UInt8) (w : World) (hl : l.length ≤ 100000000) :
    Calls Try.prog 36 #[.string ⟨l.toArray⟩] w fun e w' => e = .returned (.string ⟨l.toArray⟩) ∧ Below w.heap.size w w' := by
  go_enter Try.func36, Try.ntmps36
  go_wp2_with fail
  refine (Try.stringslite_Clone _ _ (by simp [ByteArray.size]; omega)).mono ?_
  rintro e w' ⟨rfl, hB⟩
  go_wp2
  go_ret
  exact ⟨rfl, hB⟩
end Go.Proofs.Ytpeghnhaekebdaa

/- Walks: namesOf, absolute, Long, Base. -/
set_option linter.unusedVariables false
set_option linter.unusedSimpArgs false
namespace Go.Proofs.Ytpeghnhaekebdaa
open Go.RowKit Go.Shelf
attribute [local go_sem] Oper.semAt_some

set_option maxHeartbeats 1000000 in
theorem namesOf_in (p : List UInt8) (w : World) :
    CallsIn Fence.wide (3 - 1) Try.prog 58 #[.string ⟨p.toArray⟩] w fun e w' => e = .returned (.func (.func 65) #[] #[.pointer (some ⟨w.heap.size, 0, none⟩)]) ∧ w' = w.alloc (.cells #[.string ⟨p.toArray⟩] 9) := by
  refine callsIn_of_wp Try.func58 rfl trivial ?_ rfl
  simp only [Try.ntmps58, List.size_toArray, List.length_cons, List.length_nil, Nat.reduceAdd, Nat.reduceSub, Array.replicate_succ, Array.replicate_zero, List.push_toArray, List.append_toArray, List.nil_append, List.cons_append]
  gi_wp2
  go_ret
  exact ⟨rfl, rfl⟩

theorem names_stops (B : Nat) (p : List UInt8) (hp : p.length ≤ 1000000) (w : World) (hB : B < w.heap.size) (hc : w.cell? ⟨B, 0, none⟩ = some (.string ⟨p.toArray⟩)) :
    SeqStopsK Fence.wide (3 - 1) Try.prog 65 #[.pointer (some ⟨B, 0, none⟩)] txtV (fun _ _ => True) (fun ys => ys.map (·.1) = namesB p) (fun pre => pre.map (·.1) <+: namesB p) (p.length + 1) w := fun l J Jx W hW hJ _ hY h0 =>
  namesOf1_in l B p hp J Jx
    (fun s A q h => hJ s A (A.drewN q) none h ⟨rfl, rfl, rfl, Nat.le_refl _, fun _ _ _ => rfl⟩ (fun r e => by cases e)) hY W ((hW.cell (p := ⟨B, 0, none⟩) hB).trans hc) h0

theorem absB_prefix (l : List UInt8) : Lib.hasPrefix l [47] = absB l := by
  cases l with
  | nil => rfl
  | cons c r => simp [Lib.hasPrefix, absB, List.isPrefixOf, eq_comm, BEq.comm]
theorem absolute_any (p : List UInt8) (w : World) : Calls Try.prog 57 #[.string ⟨p.toArray⟩] w fun e w' => e = .returned (.bool (absB p)) ∧ w = w' := by
  go_enter Try.func57, Try.ntmps57
  go_wp2_with fail; refine (Try.strings_HasPrefix ⟨p.toArray⟩ ⟨#[47]⟩ _).mono ?_; rintro e w' ⟨rfl, rfl⟩
  go_wp2
  go_ret
  exact ⟨ret_bool (absB_prefix p), rfl⟩

end Go.Proofs.Ytpeghnhaekebdaa

/- Walks: Read. -/
set_option linter.unusedVariables false
set_option linter.unusedSimpArgs false
namespace Go.Proofs.Ytpeghnhaekebdaa
open Go.RowKit Go.Shelf
attribute [local go_sem] Oper.semAt_some

theorem Try.infoS : (Try.prog.info? 9).map (fun i => (i.zero, i.size, i.bytes)) = some (some (.string ByteArray.empty), 1, 16) := by kernel_rfl
abbrev pathV (a : Bool) (v : Value) (s : Bool) : Array Value := #[.bool a, v, .bool s]

theorem endB_suffix (l : List UInt8) : Lib.hasSuffix l [47] = endB l := by
  unfold Lib.hasSuffix endB
  rw [Bool.eq_iff_iff, List.isSuffixOf_iff_suffix, beq_iff_eq]
  constructor
  · rintro ⟨r, rfl⟩; simp
  · intro h
    obtain ⟨ys, rfl⟩ := List.getLast?_eq_some_iff.1 h
    exact ⟨ys, rfl⟩
/-- The stores at the end: the field, then the whole result. -/
theorem four_set {W : World} {n D : Nat} {t e : TypeId} {cs : Array Value} {a s : Bool} {v : Value} {k : Nat} {xs : List Value} (hv : Blk W (n + 1) t cs) (hr : Blk W n t (pathV false (.slice none 0 0) false))
    (hrow : W.ownsRow n e 1 v k xs) (hte : t ≠ e) (hK : W.heap[D]? = some (.deferred (some []))) :
    ∃ W', W' = (((W.setCell ⟨n + 1, 2, none⟩ (.bool s)).setCell ⟨n, 0, none⟩ (.bool a)).setCell ⟨n, 1, none⟩ v).setCell ⟨n, 2, none⟩ (.bool s) ∧
      W'.heap[D]? = some (.deferred (some [])) ∧ Blk W' n t (pathV a v s) ∧ W'.ownsRow n e 1 v k xs ∧ Below n W W' := by
  refine ⟨_, rfl, ?_, ?_, ?_, ?_⟩
  · exact ((((KeepsOthers.setCell W _ _).trans (KeepsOthers.setCell _ _ _)).trans (KeepsOthers.setCell _ _ _)).trans (KeepsOthers.setCell _ _ _)).same D _ hK rfl
  · simpa [pathV] using (((hr.other (B2 := n + 1) (i := 2) (by omega) (.bool s)).set 0 (.bool a)).set 1 v).set 2 (.bool s)
  · have r1 := hrow.kept (grownBy_set W (n + 1) 2 (.bool s)) (.inr (hv.not_row hte hrow).symm)
    have q1 := hr.other (B2 := n + 1) (i := 2) (by omega) (.bool s)
    have r2 := r1.kept (grownBy_set _ n 0 (.bool a)) (.inr (q1.not_row hte r1).symm)
    have q2 := q1.set 0 (.bool a)
    have r3 := r2.kept (grownBy_set _ n 1 v) (.inr (q2.not_row hte r2).symm)
    have q3 := q2.set 1 v
    exact r3.kept (grownBy_set _ n 2 (.bool s)) (.inr (q3.not_row hte r3).symm)
  · exact ((((Below.refl n W).setCell (p := ⟨n + 1, 2, none⟩) (by simp) _).setCell (p := ⟨n, 0, none⟩) (Nat.le_refl _) _).setCell (p := ⟨n, 1, none⟩) (Nat.le_refl _) _).setCell (p := ⟨n, 2, none⟩) (Nat.le_refl _) _
theorem Blk.putObj {W : World} {B D : Nat} {t : TypeId} {cs : Array Value} (h : Blk W B t cs) {o : Obj} (o' : Obj) (hD : W.heap[D]? = some o) (ho : o.isCells = false) : Blk (W.putObj D o') B t cs :=
  h.kept (grownBy_putObj' W D o') (fun e => by
    obtain rfl : B = D := by simpa using e
    rw [show W.heap[B]? = _ from h] at hD; cases hD; cases ho)
set_option maxRecDepth 100000 in
set_option maxHeartbeats 4000000 in
theorem Read_any (p : List UInt8) (hp : p.length ≤ 1000000) (w : World) :
    Calls Try.prog 45 #[.string ⟨p.toArray⟩] w fun e w' => ∃ v, e = .returned (.agg (pathV (absB p) v (slashB p))) ∧ w'.ownsRow w.heap.size 9 1 v (namesB p).length (strsV (namesB p)) ∧ Below w.heap.size w w' := by
  obtain ⟨is, hsi, hs0, hs1, hs2⟩ := info_parts Try.infoS
  refine (callsIn_wide (n := 3)).1 ?_
  (refine callsIn_of_wp_marks Try.func45 rfl trivial ?_ rfl; simp only [Try.ntmps45, List.size_toArray, List.length_cons, List.length_nil, Nat.reduceAdd, Nat.reduceSub, Array.replicate_succ, Array.replicate_zero, List.push_toArray, List.append_toArray, List.nil_append, List.cons_append])
  gi_wp2_with fail
  refine ⟨trivial, ?_⟩
  gi_at_call 57
  refine (callsIn_wide.2 (absolute_any p _)).mono ?_
  rintro e w' ⟨rfl, rfl⟩
  gi_wp2_with fail
  refine ⟨trivial, ?_⟩
  gi_at_call 58
  refine (namesOf_in p _).mono ?_
  rintro e w' ⟨rfl, rfl⟩
  gi_wp2
  have b0 := Blk.new w 77 (pathV false (.slice none 0 0) false)
  have b1 := Blk.new (w.alloc (.cells (pathV false (.slice none 0 0) false) 77)) 77 (pathV (absB p) (.slice none 0 0) false)
  have b2 := Blk.new ((w.alloc (.cells (pathV false (.slice none 0 0) false) 77)).alloc (.cells (pathV (absB p) (.slice none 0 0) false) 77)) 9 #[.string ⟨p.toArray⟩]
  simp only [World.size_alloc] at b1 b2
  have hB0 : Below w.heap.size w (((w.alloc (.cells (pathV false (.slice none 0 0) false) 77)).alloc (.cells (pathV (absB p) (.slice none 0 0) false) 77)).alloc (.cells #[.string ⟨p.toArray⟩] 9)) := (((Below.refl _ w).alloc (Nat.le_refl _) _).alloc (by simp) _).alloc (by simp; omega) _
  refine wpIn_rangeFunc_ownG rfl (by omega) (gf := 65) (lb := #[.pointer (some ⟨w.heap.size + 1 + 1, 0, none⟩)]) rfl trivial (enters_of Try.func65 (by kernel_rfl) rfl)
    (names_stops (w.heap.size + 1 + 1) p hp _ (by simp) (b2.cell 0)) (fun _ _ => trivial) (fun _ _ _ _ _ _ _ _ => trivial) (Below.refl _ _) (fun _ => rfl)
    (fun pre W => ((∃ v, Blk W (w.heap.size + 1) 77 (pathV (absB p) v false) ∧ W.ownsRow w.heap.size 9 1 v pre.length (strsV (pre.map (·.1)))) ∧ Blk W w.heap.size 77 (pathV false (.slice none 0 0) false)) ∧ Below w.heap.size w W)
    (fun _ _ _ => False)
    (OwnFrom.and (Own.from (fun s A B row hs hg hr => ⟨blkRow_own (β := List Txt) w.heap.size (w.heap.size + 1) 77 9 1 (fun pre => pre.length) (fun pre => strsV (pre.map (·.1))) (fun v => pathV (absB p) v false) s A B row hs.1 hg hr, blk_own (β := Unit) _ _ (fun _ => pathV false (.slice none 0 0) false) () A B row hs.2 hg hr⟩) _) (ownFrom_below (Nat.le_refl _) (by simp; omega)))
    (fun _ _ _ _ _ hs _ _ => hs)
    ⟨⟨⟨_, b1.alloc _, World.ownsRow_nil _ _ _ _⟩, (b0.alloc _).alloc _⟩, hB0⟩
    (fun x => { tmps := #[.string ⟨p.toArray⟩, undef, .pointer (some ⟨w.heap.size, 0, none⟩), .pointer (some ⟨w.heap.size + 1, 0, none⟩), .string ⟨x.1.toArray⟩, .string ⟨p.toArray⟩, .bool (absB p), .agg (pathV (absB p) (.slice none 0 0) false), .string ⟨p.toArray⟩,
      .func (.func 65) #[] #[.pointer (some ⟨w.heap.size + 1 + 1, 0, none⟩)], .string ⟨x.1.toArray⟩, undef, undef, undef, undef, undef, undef, undef, undef, undef, undef, undef, undef, undef, undef, undef, undef, undef], defers := [] }) ?assign ?body ?done ?stop
  case assign =>
    intro l x W K hK
    gi_wp2
    exact hK
  case body =>
    rintro l pre x W ⟨⟨⟨v, hv, hrow⟩, hr0⟩, hB⟩ hlen
    have hmx : Try.prog.follows .mixedOrders = true := by kernel_rfl
    gi_wp2
    refine wpIn_region_any hmx ?_
    try (change wpAnyIn _ _ _ _ _ _ _ _ _ (World.drew _))
    have hB1 : Below w.heap.size w W.drew := hB.drew
    have hv1 : Blk W.drew (w.heap.size + 1) 77 (pathV (absB p) v false) := hv
    have hr1 : Blk W.drew w.heap.size 77 (pathV false (.slice none 0 0) false) := hr0
    have hrow1 : W.drew.ownsRow w.heap.size 9 1 v pre.length (strsV (pre.map (·.1))) := hrow
    have hkeep : KeepsOthers W W.drew := KeepsOthers.drew _
    generalize W.drew = Wd at *
    clear hv hrow hr0 hB
    have hc := hv1.cell 1
    simp [pathV] at hc
    -- THE ORDERS
    refine wpAnyIn_ready (rs := [0, 2]) (by kernel_rfl) (by simp) ?_
    refine AllReadyIn.cons rfl (fun K hK => ?_) ?_
    · go_simp
      refine hK _ _ ?_
      clear hK K
      refine wpAnyIn_ready (rs := [1, 2]) (by kernel_rfl) (by simp) ?_
      refine AllReadyIn.cons rfl (fun K hK => ?_) ?_
      · go_simp
        refine hK _ _ ?_
        clear hK K
        refine wpAnyIn_ready (rs := [2]) (by kernel_rfl) (by simp) ?_
        refine AllReadyIn.cons rfl (fun K hK => ?_) ?_
        · go_simp
          refine hK _ _ ?_
          clear hK K
          refine wpAnyIn_ready (rs := [3]) (by kernel_rfl) (by simp) ?_
          refine AllReadyIn.cons rfl (fun K hK => ?_) ?_
          · go_simp
            gi_wp2_with (refine ⟨trivial, ?_⟩; gi_at_call 36; refine (CallsIn.inRound l (callsIn_wide.2 (Clone_any x.1 _ (Nat.le_trans x.2 (by decide))))).mono ?_; rintro e w2 ⟨rfl, hC⟩; have hc2 : w2.cell? ⟨w.heap.size + 1, 1, none⟩ = some v := (hC.cell (p := ⟨w.heap.size + 1, 1, none⟩) hv1.lt).trans hc; have hc4 : ∀ o, (w2.alloc o).cell? ⟨w.heap.size + 1, 1, none⟩ = some v := fun o => ((hv1.next hC).alloc o).cell 1; have hrow2 := own_keep hrow1 hC)
            refine wpAnyIn_ready (rs := [4]) (by kernel_rfl) (by simp) ?_
            refine AllReadyIn.cons rfl (fun K hK => ?_) ?_
            · go_simp
              refine hK _ _ ?_
              clear hK K
              refine wpAnyIn_ready (rs := [5]) (by kernel_rfl) (by simp) ?_
              refine AllReadyIn.cons rfl (fun K hK => ?_) ?_
              · refine stepIn_append_own rfl (.tmp 12) (.tmp 15) 75 9 rfl Try.underlying75 hsi hs0 hs1 hs2 rfl (by decide) w.heap.size ⟨w2.heap.size, 0, none⟩ 1 [.string ⟨x.1.toArray⟩] rfl rfl (hrow2.alloc _) rfl (cell_one_new _ _ _) (by simp [Value.oneCell']) (by unfold maxLen; omega) (by omega) (by have := hC.size; have := hB1.size; simp; omega) ?_
                intro v' w1 hown' hgrow
                have hr2 := (((hr1.next hC).alloc _).kept hgrow ((hr1.next hC).not_row (by decide) hrow2)).other (B2 := w.heap.size + 1) (i := 1) (by omega) v'
                obtain ⟨g', cap', rfl⟩ := ownsRow_succ hown'
                obtain ⟨h1, h2, h3, h4, h5⟩ := hv1.appended (i := 1) (by decide) hrow1 hB1.size (by omega) hC hown' hgrow
                have hc3 := h1.cell 1
                have hf3 := h1.frozen 1
                simp [pathV] at hc3
                refine hK _ _ ?_
                clear hK K
                refine wpAnyIn_ready (rs := [6]) (by kernel_rfl) (by simp) ?_
                refine AllReadyIn.cons rfl (fun K hK => ?_) ?_
                · go_simp
                  refine hK _ _ ?_
                  clear hK K
                  refine wpAnyIn_ready (rs := [7]) (by kernel_rfl) (by simp) ?_
                  refine AllReadyIn.cons rfl (fun K hK => ?_) ?_
                  · go_simp
                    refine hK _ _ ?_
                    clear hK K
                    refine wpAnyIn_done (by kernel_rfl) ?_ _
                    exact ⟨(hkeep.trans h4).from _, trivial, ⟨⟨_, by simpa [pathV] using h2, by simpa [strsV] using h3⟩, hr2⟩, hB1.trans h5⟩
                  exact AllReadyIn.nil
                exact AllReadyIn.nil
              exact AllReadyIn.nil
            exact AllReadyIn.nil
          exact AllReadyIn.nil
        exact AllReadyIn.nil
      refine AllReadyIn.cons rfl (fun K hK => ?_) ?_
      · go_simp
        refine hK _ _ ?_
        clear hK K
        refine wpAnyIn_ready (rs := [1, 3]) (by kernel_rfl) (by simp) ?_
        refine AllReadyIn.cons rfl (fun K hK => ?_) ?_
        · go_simp
          refine hK _ _ ?_
          clear hK K
          refine wpAnyIn_ready (rs := [3]) (by kernel_rfl) (by simp) ?_
          refine AllReadyIn.cons rfl (fun K hK => ?_) ?_
          · go_simp
            gi_wp2_with (refine ⟨trivial, ?_⟩; gi_at_call 36; refine (CallsIn.inRound l (callsIn_wide.2 (Clone_any x.1 _ (Nat.le_trans x.2 (by decide))))).mono ?_; rintro e w2 ⟨rfl, hC⟩; have hc2 : w2.cell? ⟨w.heap.size + 1, 1, none⟩ = some v := (hC.cell (p := ⟨w.heap.size + 1, 1, none⟩) hv1.lt).trans hc; have hc4 : ∀ o, (w2.alloc o).cell? ⟨w.heap.size + 1, 1, none⟩ = some v := fun o => ((hv1.next hC).alloc o).cell 1; have hrow2 := own_keep hrow1 hC)
            refine wpAnyIn_ready (rs := [4]) (by kernel_rfl) (by simp) ?_
            refine AllReadyIn.cons rfl (fun K hK => ?_) ?_
            · go_simp
              refine hK _ _ ?_
              clear hK K
              refine wpAnyIn_ready (rs := [5]) (by kernel_rfl) (by simp) ?_
              refine AllReadyIn.cons rfl (fun K hK => ?_) ?_
              · refine stepIn_append_own rfl (.tmp 12) (.tmp 15) 75 9 rfl Try.underlying75 hsi hs0 hs1 hs2 rfl (by decide) w.heap.size ⟨w2.heap.size, 0, none⟩ 1 [.string ⟨x.1.toArray⟩] rfl rfl (hrow2.alloc _) rfl (cell_one_new _ _ _) (by simp [Value.oneCell']) (by unfold maxLen; omega) (by omega) (by have := hC.size; have := hB1.size; simp; omega) ?_
                intro v' w1 hown' hgrow
                have hr2 := (((hr1.next hC).alloc _).kept hgrow ((hr1.next hC).not_row (by decide) hrow2)).other (B2 := w.heap.size + 1) (i := 1) (by omega) v'
                obtain ⟨g', cap', rfl⟩ := ownsRow_succ hown'
                obtain ⟨h1, h2, h3, h4, h5⟩ := hv1.appended (i := 1) (by decide) hrow1 hB1.size (by omega) hC hown' hgrow
                have hc3 := h1.cell 1
                have hf3 := h1.frozen 1
                simp [pathV] at hc3
                refine hK _ _ ?_
                clear hK K
                refine wpAnyIn_ready (rs := [6]) (by kernel_rfl) (by simp) ?_
                refine AllReadyIn.cons rfl (fun K hK => ?_) ?_
                · go_simp
                  refine hK _ _ ?_
                  clear hK K
                  refine wpAnyIn_ready (rs := [7]) (by kernel_rfl) (by simp) ?_
                  refine AllReadyIn.cons rfl (fun K hK => ?_) ?_
                  · go_simp
                    refine hK _ _ ?_
                    clear hK K
                    refine wpAnyIn_done (by kernel_rfl) ?_ _
                    exact ⟨(hkeep.trans h4).from _, trivial, ⟨⟨_, by simpa [pathV] using h2, by simpa [strsV] using h3⟩, hr2⟩, hB1.trans h5⟩
                  exact AllReadyIn.nil
                exact AllReadyIn.nil
              exact AllReadyIn.nil
            exact AllReadyIn.nil
          exact AllReadyIn.nil
        refine AllReadyIn.cons rfl (fun K hK => ?_) ?_
        · go_simp
          gi_wp2_with (refine ⟨trivial, ?_⟩; gi_at_call 36; refine (CallsIn.inRound l (callsIn_wide.2 (Clone_any x.1 _ (Nat.le_trans x.2 (by decide))))).mono ?_; rintro e w2 ⟨rfl, hC⟩; have hc2 : w2.cell? ⟨w.heap.size + 1, 1, none⟩ = some v := (hC.cell (p := ⟨w.heap.size + 1, 1, none⟩) hv1.lt).trans hc; have hc4 : ∀ o, (w2.alloc o).cell? ⟨w.heap.size + 1, 1, none⟩ = some v := fun o => ((hv1.next hC).alloc o).cell 1; have hrow2 := own_keep hrow1 hC)
          refine wpAnyIn_ready (rs := [1, 4]) (by kernel_rfl) (by simp) ?_
          refine AllReadyIn.cons rfl (fun K hK => ?_) ?_
          · go_simp
            refine hK _ _ ?_
            clear hK K
            refine wpAnyIn_ready (rs := [4]) (by kernel_rfl) (by simp) ?_
            refine AllReadyIn.cons rfl (fun K hK => ?_) ?_
            · go_simp
              refine hK _ _ ?_
              clear hK K
              refine wpAnyIn_ready (rs := [5]) (by kernel_rfl) (by simp) ?_
              refine AllReadyIn.cons rfl (fun K hK => ?_) ?_
              · refine stepIn_append_own rfl (.tmp 12) (.tmp 15) 75 9 rfl Try.underlying75 hsi hs0 hs1 hs2 rfl (by decide) w.heap.size ⟨w2.heap.size, 0, none⟩ 1 [.string ⟨x.1.toArray⟩] rfl rfl (hrow2.alloc _) rfl (cell_one_new _ _ _) (by simp [Value.oneCell']) (by unfold maxLen; omega) (by omega) (by have := hC.size; have := hB1.size; simp; omega) ?_
                intro v' w1 hown' hgrow
                have hr2 := (((hr1.next hC).alloc _).kept hgrow ((hr1.next hC).not_row (by decide) hrow2)).other (B2 := w.heap.size + 1) (i := 1) (by omega) v'
                obtain ⟨g', cap', rfl⟩ := ownsRow_succ hown'
                obtain ⟨h1, h2, h3, h4, h5⟩ := hv1.appended (i := 1) (by decide) hrow1 hB1.size (by omega) hC hown' hgrow
                have hc3 := h1.cell 1
                have hf3 := h1.frozen 1
                simp [pathV] at hc3
                refine hK _ _ ?_
                clear hK K
                refine wpAnyIn_ready (rs := [6]) (by kernel_rfl) (by simp) ?_
                refine AllReadyIn.cons rfl (fun K hK => ?_) ?_
                · go_simp
                  refine hK _ _ ?_
                  clear hK K
                  refine wpAnyIn_ready (rs := [7]) (by kernel_rfl) (by simp) ?_
                  refine AllReadyIn.cons rfl (fun K hK => ?_) ?_
                  · go_simp
                    refine hK _ _ ?_
                    clear hK K
                    refine wpAnyIn_done (by kernel_rfl) ?_ _
                    exact ⟨(hkeep.trans h4).from _, trivial, ⟨⟨_, by simpa [pathV] using h2, by simpa [strsV] using h3⟩, hr2⟩, hB1.trans h5⟩
                  exact AllReadyIn.nil
                exact AllReadyIn.nil
              exact AllReadyIn.nil
            exact AllReadyIn.nil
          refine AllReadyIn.cons rfl (fun K hK => ?_) ?_
          · go_simp
            refine hK _ _ ?_
            clear hK K
            refine wpAnyIn_ready (rs := [1]) (by kernel_rfl) (by simp) ?_
            refine AllReadyIn.cons rfl (fun K hK => ?_) ?_
            · go_simp
              refine hK _ _ ?_
              clear hK K
              refine wpAnyIn_ready (rs := [5]) (by kernel_rfl) (by simp) ?_
              refine AllReadyIn.cons rfl (fun K hK => ?_) ?_
              · refine stepIn_append_own rfl (.tmp 12) (.tmp 15) 75 9 rfl Try.underlying75 hsi hs0 hs1 hs2 rfl (by decide) w.heap.size ⟨w2.heap.size, 0, none⟩ 1 [.string ⟨x.1.toArray⟩] rfl rfl (hrow2.alloc _) rfl (cell_one_new _ _ _) (by simp [Value.oneCell']) (by unfold maxLen; omega) (by omega) (by have := hC.size; have := hB1.size; simp; omega) ?_
                intro v' w1 hown' hgrow
                have hr2 := (((hr1.next hC).alloc _).kept hgrow ((hr1.next hC).not_row (by decide) hrow2)).other (B2 := w.heap.size + 1) (i := 1) (by omega) v'
                obtain ⟨g', cap', rfl⟩ := ownsRow_succ hown'
                obtain ⟨h1, h2, h3, h4, h5⟩ := hv1.appended (i := 1) (by decide) hrow1 hB1.size (by omega) hC hown' hgrow
                have hc3 := h1.cell 1
                have hf3 := h1.frozen 1
                simp [pathV] at hc3
                refine hK _ _ ?_
                clear hK K
                refine wpAnyIn_ready (rs := [6]) (by kernel_rfl) (by simp) ?_
                refine AllReadyIn.cons rfl (fun K hK => ?_) ?_
                · go_simp
                  refine hK _ _ ?_
                  clear hK K
                  refine wpAnyIn_ready (rs := [7]) (by kernel_rfl) (by simp) ?_
                  refine AllReadyIn.cons rfl (fun K hK => ?_) ?_
                  · go_simp
                    refine hK _ _ ?_
                    clear hK K
                    refine wpAnyIn_done (by kernel_rfl) ?_ _
                    exact ⟨(hkeep.trans h4).from _, trivial, ⟨⟨_, by simpa [pathV] using h2, by simpa [strsV] using h3⟩, hr2⟩, hB1.trans h5⟩
                  exact AllReadyIn.nil
                exact AllReadyIn.nil
              exact AllReadyIn.nil
            exact AllReadyIn.nil
          exact AllReadyIn.nil
        exact AllReadyIn.nil
      exact AllReadyIn.nil
    refine AllReadyIn.cons rfl (fun K hK => ?_) ?_
    · go_simp
      refine hK _ _ ?_
      clear hK K
      refine wpAnyIn_ready (rs := [0, 3]) (by kernel_rfl) (by simp) ?_
      refine AllReadyIn.cons rfl (fun K hK => ?_) ?_
      · go_simp
        refine hK _ _ ?_
        clear hK K
        refine wpAnyIn_ready (rs := [1, 3]) (by kernel_rfl) (by simp) ?_
        refine AllReadyIn.cons rfl (fun K hK => ?_) ?_
        · go_simp
          refine hK _ _ ?_
          clear hK K
          refine wpAnyIn_ready (rs := [3]) (by kernel_rfl) (by simp) ?_
          refine AllReadyIn.cons rfl (fun K hK => ?_) ?_
          · go_simp
            gi_wp2_with (refine ⟨trivial, ?_⟩; gi_at_call 36; refine (CallsIn.inRound l (callsIn_wide.2 (Clone_any x.1 _ (Nat.le_trans x.2 (by decide))))).mono ?_; rintro e w2 ⟨rfl, hC⟩; have hc2 : w2.cell? ⟨w.heap.size + 1, 1, none⟩ = some v := (hC.cell (p := ⟨w.heap.size + 1, 1, none⟩) hv1.lt).trans hc; have hc4 : ∀ o, (w2.alloc o).cell? ⟨w.heap.size + 1, 1, none⟩ = some v := fun o => ((hv1.next hC).alloc o).cell 1; have hrow2 := own_keep hrow1 hC)
            refine wpAnyIn_ready (rs := [4]) (by kernel_rfl) (by simp) ?_
            refine AllReadyIn.cons rfl (fun K hK => ?_) ?_
            · go_simp
              refine hK _ _ ?_
              clear hK K
              refine wpAnyIn_ready (rs := [5]) (by kernel_rfl) (by simp) ?_
              refine AllReadyIn.cons rfl (fun K hK => ?_) ?_
              · refine stepIn_append_own rfl (.tmp 12) (.tmp 15) 75 9 rfl Try.underlying75 hsi hs0 hs1 hs2 rfl (by decide) w.heap.size ⟨w2.heap.size, 0, none⟩ 1 [.string ⟨x.1.toArray⟩] rfl rfl (hrow2.alloc _) rfl (cell_one_new _ _ _) (by simp [Value.oneCell']) (by unfold maxLen; omega) (by omega) (by have := hC.size; have := hB1.size; simp; omega) ?_
                intro v' w1 hown' hgrow
                have hr2 := (((hr1.next hC).alloc _).kept hgrow ((hr1.next hC).not_row (by decide) hrow2)).other (B2 := w.heap.size + 1) (i := 1) (by omega) v'
                obtain ⟨g', cap', rfl⟩ := ownsRow_succ hown'
                obtain ⟨h1, h2, h3, h4, h5⟩ := hv1.appended (i := 1) (by decide) hrow1 hB1.size (by omega) hC hown' hgrow
                have hc3 := h1.cell 1
                have hf3 := h1.frozen 1
                simp [pathV] at hc3
                refine hK _ _ ?_
                clear hK K
                refine wpAnyIn_ready (rs := [6]) (by kernel_rfl) (by simp) ?_
                refine AllReadyIn.cons rfl (fun K hK => ?_) ?_
                · go_simp
                  refine hK _ _ ?_
                  clear hK K
                  refine wpAnyIn_ready (rs := [7]) (by kernel_rfl) (by simp) ?_
                  refine AllReadyIn.cons rfl (fun K hK => ?_) ?_
                  · go_simp
                    refine hK _ _ ?_
                    clear hK K
                    refine wpAnyIn_done (by kernel_rfl) ?_ _
                    exact ⟨(hkeep.trans h4).from _, trivial, ⟨⟨_, by simpa [pathV] using h2, by simpa [strsV] using h3⟩, hr2⟩, hB1.trans h5⟩
                  exact AllReadyIn.nil
                exact AllReadyIn.nil
              exact AllReadyIn.nil
            exact AllReadyIn.nil
          exact AllReadyIn.nil
        refine AllReadyIn.cons rfl (fun K hK => ?_) ?_
        · go_simp
          gi_wp2_with (refine ⟨trivial, ?_⟩; gi_at_call 36; refine (CallsIn.inRound l (callsIn_wide.2 (Clone_any x.1 _ (Nat.le_trans x.2 (by decide))))).mono ?_; rintro e w2 ⟨rfl, hC⟩; have hc2 : w2.cell? ⟨w.heap.size + 1, 1, none⟩ = some v := (hC.cell (p := ⟨w.heap.size + 1, 1, none⟩) hv1.lt).trans hc; have hc4 : ∀ o, (w2.alloc o).cell? ⟨w.heap.size + 1, 1, none⟩ = some v := fun o => ((hv1.next hC).alloc o).cell 1; have hrow2 := own_keep hrow1 hC)
          refine wpAnyIn_ready (rs := [1, 4]) (by kernel_rfl) (by simp) ?_
          refine AllReadyIn.cons rfl (fun K hK => ?_) ?_
          · go_simp
            refine hK _ _ ?_
            clear hK K
            refine wpAnyIn_ready (rs := [4]) (by kernel_rfl) (by simp) ?_
            refine AllReadyIn.cons rfl (fun K hK => ?_) ?_
            · go_simp
              refine hK _ _ ?_
              clear hK K
              refine wpAnyIn_ready (rs := [5]) (by kernel_rfl) (by simp) ?_
              refine AllReadyIn.cons rfl (fun K hK => ?_) ?_
              · refine stepIn_append_own rfl (.tmp 12) (.tmp 15) 75 9 rfl Try.underlying75 hsi hs0 hs1 hs2 rfl (by decide) w.heap.size ⟨w2.heap.size, 0, none⟩ 1 [.string ⟨x.1.toArray⟩] rfl rfl (hrow2.alloc _) rfl (cell_one_new _ _ _) (by simp [Value.oneCell']) (by unfold maxLen; omega) (by omega) (by have := hC.size; have := hB1.size; simp; omega) ?_
                intro v' w1 hown' hgrow
                have hr2 := (((hr1.next hC).alloc _).kept hgrow ((hr1.next hC).not_row (by decide) hrow2)).other (B2 := w.heap.size + 1) (i := 1) (by omega) v'
                obtain ⟨g', cap', rfl⟩ := ownsRow_succ hown'
                obtain ⟨h1, h2, h3, h4, h5⟩ := hv1.appended (i := 1) (by decide) hrow1 hB1.size (by omega) hC hown' hgrow
                have hc3 := h1.cell 1
                have hf3 := h1.frozen 1
                simp [pathV] at hc3
                refine hK _ _ ?_
                clear hK K
                refine wpAnyIn_ready (rs := [6]) (by kernel_rfl) (by simp) ?_
                refine AllReadyIn.cons rfl (fun K hK => ?_) ?_
                · go_simp
                  refine hK _ _ ?_
                  clear hK K
                  refine wpAnyIn_ready (rs := [7]) (by kernel_rfl) (by simp) ?_
                  refine AllReadyIn.cons rfl (fun K hK => ?_) ?_
                  · go_simp
                    refine hK _ _ ?_
                    clear hK K
                    refine wpAnyIn_done (by kernel_rfl) ?_ _
                    exact ⟨(hkeep.trans h4).from _, trivial, ⟨⟨_, by simpa [pathV] using h2, by simpa [strsV] using h3⟩, hr2⟩, hB1.trans h5⟩
                  exact AllReadyIn.nil
                exact AllReadyIn.nil
              exact AllReadyIn.nil
            exact AllReadyIn.nil
          refine AllReadyIn.cons rfl (fun K hK => ?_) ?_
          · go_simp
            refine hK _ _ ?_
            clear hK K
            refine wpAnyIn_ready (rs := [1]) (by kernel_rfl) (by simp) ?_
            refine AllReadyIn.cons rfl (fun K hK => ?_) ?_
            · go_simp
              refine hK _ _ ?_
              clear hK K
              refine wpAnyIn_ready (rs := [5]) (by kernel_rfl) (by simp) ?_
              refine AllReadyIn.cons rfl (fun K hK => ?_) ?_
              · refine stepIn_append_own rfl (.tmp 12) (.tmp 15) 75 9 rfl Try.underlying75 hsi hs0 hs1 hs2 rfl (by decide) w.heap.size ⟨w2.heap.size, 0, none⟩ 1 [.string ⟨x.1.toArray⟩] rfl rfl (hrow2.alloc _) rfl (cell_one_new _ _ _) (by simp [Value.oneCell']) (by unfold maxLen; omega) (by omega) (by have := hC.size; have := hB1.size; simp; omega) ?_
                intro v' w1 hown' hgrow
                have hr2 := (((hr1.next hC).alloc _).kept hgrow ((hr1.next hC).not_row (by decide) hrow2)).other (B2 := w.heap.size + 1) (i := 1) (by omega) v'
                obtain ⟨g', cap', rfl⟩ := ownsRow_succ hown'
                obtain ⟨h1, h2, h3, h4, h5⟩ := hv1.appended (i := 1) (by decide) hrow1 hB1.size (by omega) hC hown' hgrow
                have hc3 := h1.cell 1
                have hf3 := h1.frozen 1
                simp [pathV] at hc3
                refine hK _ _ ?_
                clear hK K
                refine wpAnyIn_ready (rs := [6]) (by kernel_rfl) (by simp) ?_
                refine AllReadyIn.cons rfl (fun K hK => ?_) ?_
                · go_simp
                  refine hK _ _ ?_
                  clear hK K
                  refine wpAnyIn_ready (rs := [7]) (by kernel_rfl) (by simp) ?_
                  refine AllReadyIn.cons rfl (fun K hK => ?_) ?_
                  · go_simp
                    refine hK _ _ ?_
                    clear hK K
                    refine wpAnyIn_done (by kernel_rfl) ?_ _
                    exact ⟨(hkeep.trans h4).from _, trivial, ⟨⟨_, by simpa [pathV] using h2, by simpa [strsV] using h3⟩, hr2⟩, hB1.trans h5⟩
                  exact AllReadyIn.nil
                exact AllReadyIn.nil
              exact AllReadyIn.nil
            exact AllReadyIn.nil
          exact AllReadyIn.nil
        exact AllReadyIn.nil
      refine AllReadyIn.cons rfl (fun K hK => ?_) ?_
      · go_simp
        gi_wp2_with (refine ⟨trivial, ?_⟩; gi_at_call 36; refine (CallsIn.inRound l (callsIn_wide.2 (Clone_any x.1 _ (Nat.le_trans x.2 (by decide))))).mono ?_; rintro e w2 ⟨rfl, hC⟩; have hc2 : w2.cell? ⟨w.heap.size + 1, 1, none⟩ = some v := (hC.cell (p := ⟨w.heap.size + 1, 1, none⟩) hv1.lt).trans hc; have hc4 : ∀ o, (w2.alloc o).cell? ⟨w.heap.size + 1, 1, none⟩ = some v := fun o => ((hv1.next hC).alloc o).cell 1; have hrow2 := own_keep hrow1 hC)
        refine wpAnyIn_ready (rs := [0, 4]) (by kernel_rfl) (by simp) ?_
        refine AllReadyIn.cons rfl (fun K hK => ?_) ?_
        · go_simp
          refine hK _ _ ?_
          clear hK K
          refine wpAnyIn_ready (rs := [1, 4]) (by kernel_rfl) (by simp) ?_
          refine AllReadyIn.cons rfl (fun K hK => ?_) ?_
          · go_simp
            refine hK _ _ ?_
            clear hK K
            refine wpAnyIn_ready (rs := [4]) (by kernel_rfl) (by simp) ?_
            refine AllReadyIn.cons rfl (fun K hK => ?_) ?_
            · go_simp
              refine hK _ _ ?_
              clear hK K
              refine wpAnyIn_ready (rs := [5]) (by kernel_rfl) (by simp) ?_
              refine AllReadyIn.cons rfl (fun K hK => ?_) ?_
              · refine stepIn_append_own rfl (.tmp 12) (.tmp 15) 75 9 rfl Try.underlying75 hsi hs0 hs1 hs2 rfl (by decide) w.heap.size ⟨w2.heap.size, 0, none⟩ 1 [.string ⟨x.1.toArray⟩] rfl rfl (hrow2.alloc _) rfl (cell_one_new _ _ _) (by simp [Value.oneCell']) (by unfold maxLen; omega) (by omega) (by have := hC.size; have := hB1.size; simp; omega) ?_
                intro v' w1 hown' hgrow
                have hr2 := (((hr1.next hC).alloc _).kept hgrow ((hr1.next hC).not_row (by decide) hrow2)).other (B2 := w.heap.size + 1) (i := 1) (by omega) v'
                obtain ⟨g', cap', rfl⟩ := ownsRow_succ hown'
                obtain ⟨h1, h2, h3, h4, h5⟩ := hv1.appended (i := 1) (by decide) hrow1 hB1.size (by omega) hC hown' hgrow
                have hc3 := h1.cell 1
                have hf3 := h1.frozen 1
                simp [pathV] at hc3
                refine hK _ _ ?_
                clear hK K
                refine wpAnyIn_ready (rs := [6]) (by kernel_rfl) (by simp) ?_
                refine AllReadyIn.cons rfl (fun K hK => ?_) ?_
                · go_simp
                  refine hK _ _ ?_
                  clear hK K
                  refine wpAnyIn_ready (rs := [7]) (by kernel_rfl) (by simp) ?_
                  refine AllReadyIn.cons rfl (fun K hK => ?_) ?_
                  · go_simp
                    refine hK _ _ ?_
                    clear hK K
                    refine wpAnyIn_done (by kernel_rfl) ?_ _
                    exact ⟨(hkeep.trans h4).from _, trivial, ⟨⟨_, by simpa [pathV] using h2, by simpa [strsV] using h3⟩, hr2⟩, hB1.trans h5⟩
                  exact AllReadyIn.nil
                exact AllReadyIn.nil
              exact AllReadyIn.nil
            exact AllReadyIn.nil
          refine AllReadyIn.cons rfl (fun K hK => ?_) ?_
          · go_simp
            refine hK _ _ ?_
            clear hK K
            refine wpAnyIn_ready (rs := [1]) (by kernel_rfl) (by simp) ?_
            refine AllReadyIn.cons rfl (fun K hK => ?_) ?_
            · go_simp
              refine hK _ _ ?_
              clear hK K
              refine wpAnyIn_ready (rs := [5]) (by kernel_rfl) (by simp) ?_
              refine AllReadyIn.cons rfl (fun K hK => ?_) ?_
              · refine stepIn_append_own rfl (.tmp 12) (.tmp 15) 75 9 rfl Try.underlying75 hsi hs0 hs1 hs2 rfl (by decide) w.heap.size ⟨w2.heap.size, 0, none⟩ 1 [.string ⟨x.1.toArray⟩] rfl rfl (hrow2.alloc _) rfl (cell_one_new _ _ _) (by simp [Value.oneCell']) (by unfold maxLen; omega) (by omega) (by have := hC.size; have := hB1.size; simp; omega) ?_
                intro v' w1 hown' hgrow
                have hr2 := (((hr1.next hC).alloc _).kept hgrow ((hr1.next hC).not_row (by decide) hrow2)).other (B2 := w.heap.size + 1) (i := 1) (by omega) v'
                obtain ⟨g', cap', rfl⟩ := ownsRow_succ hown'
                obtain ⟨h1, h2, h3, h4, h5⟩ := hv1.appended (i := 1) (by decide) hrow1 hB1.size (by omega) hC hown' hgrow
                have hc3 := h1.cell 1
                have hf3 := h1.frozen 1
                simp [pathV] at hc3
                refine hK _ _ ?_
                clear hK K
                refine wpAnyIn_ready (rs := [6]) (by kernel_rfl) (by simp) ?_
                refine AllReadyIn.cons rfl (fun K hK => ?_) ?_
                · go_simp
                  refine hK _ _ ?_
                  clear hK K
                  refine wpAnyIn_ready (rs := [7]) (by kernel_rfl) (by simp) ?_
                  refine AllReadyIn.cons rfl (fun K hK => ?_) ?_
                  · go_simp
                    refine hK _ _ ?_
                    clear hK K
                    refine wpAnyIn_done (by kernel_rfl) ?_ _
                    exact ⟨(hkeep.trans h4).from _, trivial, ⟨⟨_, by simpa [pathV] using h2, by simpa [strsV] using h3⟩, hr2⟩, hB1.trans h5⟩
                  exact AllReadyIn.nil
                exact AllReadyIn.nil
              exact AllReadyIn.nil
            exact AllReadyIn.nil
          exact AllReadyIn.nil
        refine AllReadyIn.cons rfl (fun K hK => ?_) ?_
        · go_simp
          refine hK _ _ ?_
          clear hK K
          refine wpAnyIn_ready (rs := [0]) (by kernel_rfl) (by simp) ?_
          refine AllReadyIn.cons rfl (fun K hK => ?_) ?_
          · go_simp
            refine hK _ _ ?_
            clear hK K
            refine wpAnyIn_ready (rs := [1]) (by kernel_rfl) (by simp) ?_
            refine AllReadyIn.cons rfl (fun K hK => ?_) ?_
            · go_simp
              refine hK _ _ ?_
              clear hK K
              refine wpAnyIn_ready (rs := [5]) (by kernel_rfl) (by simp) ?_
              refine AllReadyIn.cons rfl (fun K hK => ?_) ?_
              · refine stepIn_append_own rfl (.tmp 12) (.tmp 15) 75 9 rfl Try.underlying75 hsi hs0 hs1 hs2 rfl (by decide) w.heap.size ⟨w2.heap.size, 0, none⟩ 1 [.string ⟨x.1.toArray⟩] rfl rfl (hrow2.alloc _) rfl (cell_one_new _ _ _) (by simp [Value.oneCell']) (by unfold maxLen; omega) (by omega) (by have := hC.size; have := hB1.size; simp; omega) ?_
                intro v' w1 hown' hgrow
                have hr2 := (((hr1.next hC).alloc _).kept hgrow ((hr1.next hC).not_row (by decide) hrow2)).other (B2 := w.heap.size + 1) (i := 1) (by omega) v'
                obtain ⟨g', cap', rfl⟩ := ownsRow_succ hown'
                obtain ⟨h1, h2, h3, h4, h5⟩ := hv1.appended (i := 1) (by decide) hrow1 hB1.size (by omega) hC hown' hgrow
                have hc3 := h1.cell 1
                have hf3 := h1.frozen 1
                simp [pathV] at hc3
                refine hK _ _ ?_
                clear hK K
                refine wpAnyIn_ready (rs := [6]) (by kernel_rfl) (by simp) ?_
                refine AllReadyIn.cons rfl (fun K hK => ?_) ?_
                · go_simp
                  refine hK _ _ ?_
                  clear hK K
                  refine wpAnyIn_ready (rs := [7]) (by kernel_rfl) (by simp) ?_
                  refine AllReadyIn.cons rfl (fun K hK => ?_) ?_
                  · go_simp
                    refine hK _ _ ?_
                    clear hK K
                    refine wpAnyIn_done (by kernel_rfl) ?_ _
                    exact ⟨(hkeep.trans h4).from _, trivial, ⟨⟨_, by simpa [pathV] using h2, by simpa [strsV] using h3⟩, hr2⟩, hB1.trans h5⟩
                  exact AllReadyIn.nil
                exact AllReadyIn.nil
              exact AllReadyIn.nil
            exact AllReadyIn.nil
          exact AllReadyIn.nil
        exact AllReadyIn.nil
      exact AllReadyIn.nil
    exact AllReadyIn.nil
  case done =>
    rintro D ys W hD hys ⟨⟨⟨v, hv, hrow⟩, hr⟩, hB⟩ hK
    have hlen : ys.length = (namesB p).length := by rw [← hys, List.length_map]
    rw [hys, hlen] at hrow
    clear hlen
    obtain ⟨av, cap, rfl⟩ : ∃ av cap, v = .slice av (namesB p).length cap := by
      rcases hrow.2 with ⟨rfl, h0⟩ | ⟨g, cap, cur, rfl, _⟩
      · exact ⟨none, 0, by rw [h0]⟩
      · exact ⟨_, _, rfl⟩
    have c0 := hv.cell 0
    have c1 := hv.cell 1
    have c2 := hv.cell 2
    have f2 := hv.frozen 2
    have d0 := hr.cell 0
    have d1 := hr.cell 1
    have d2 := hr.cell 2
    have e0 := hr.frozen 0
    have e1 := hr.frozen 1
    have e2 := hr.frozen 2
    simp [pathV] at c0 c1 c2 d0 d1 d2
    by_cases hn : 0 < (namesB p).length
    · have hS := Lib.hid (show Lib.hasSuffix p [47] = slashB p from by
        rw [endB_suffix]
        have : (namesB p).isEmpty = false := by rw [List.isEmpty_eq_false_iff]; intro e; rw [e] at hn; simp at hn
        simp [slashB, this])
      gi_wp2_with fail
      refine ⟨trivial, ?_⟩
      gi_at_call 59
      refine (callsIn_wide.2 (Try.strings_HasSuffix ⟨p.toArray⟩ ⟨#[47]⟩ _ (by simp [ByteArray.size]; omega))).mono ?_
      rintro e w3 ⟨rfl, rfl⟩
      rw [show Lib.hasSuffix (ByteArray.mk p.toArray).data.toList (ByteArray.mk #[47]).data.toList = slashB p from hS.out]
      gi_wp2
      obtain ⟨W', hW', hK', hb', hrow', hB'⟩ := four_set (a := absB p) (s := (slashB p)) hv hr hrow (by decide) hK
      rw [← hW']
      have hb2 := hb'.putObj (.deferred none) hK' rfl
      have g0 := hb2.cell 0
      have g1 := hb2.cell 1
      have g2 := hb2.cell 2
      simp [pathV] at g0 g1 g2
      refine ⟨by simp, .inl ⟨_, _, rfl, run_takeDeferred hK', ?_⟩⟩
      refine ⟨.agg (pathV (absB p) (.slice av (namesB p).length cap) (slashB p)), ?_, _, rfl, ownsRow_putObj hrow' _ hK' rfl, (hB.trans hB').trans (belowK_b (w := w) (Nat.le_refl _) _ D _ _ (by simp at hD; omega) hK' rfl rfl)⟩
      simp [results, Try.f45, go_sem, g0, g1, g2]
    · have hS := Lib.hid (show slashB p = false from by
        have : (namesB p).isEmpty = true := by rw [List.isEmpty_iff]; exact List.eq_nil_of_length_eq_zero (by omega)
        simp [slashB, this])
      gi_wp2
      refine ⟨trivial, ?_⟩
      gi_wp2
      obtain ⟨W', hW', hK', hb', hrow', hB'⟩ := four_set (a := absB p) (s := false) hv hr hrow (by decide) hK
      rw [← hW']
      have hb2 := hb'.putObj (.deferred none) hK' rfl
      have g0 := hb2.cell 0
      have g1 := hb2.cell 1
      have g2 := hb2.cell 2
      simp [pathV] at g0 g1 g2
      refine ⟨by simp, .inl ⟨_, _, rfl, run_takeDeferred hK', ?_⟩⟩
      refine ⟨.agg (pathV (absB p) (.slice av (namesB p).length cap) false), ?_, _, by rw [hS.out], ownsRow_putObj hrow' _ hK' rfl, (hB.trans hB').trans (belowK_b (w := w) (Nat.le_refl _) _ D _ _ (by simp at hD; omega) hK' rfl rfl)⟩
      simp [results, Try.f45, go_sem, g0, g1, g2]
  case stop =>
    rintro D c pre W _ _ h _
    exact h.elim
end Go.Proofs.Ytpeghnhaekebdaa

/- A caller's own row, in a box of its own, beside an iterator with blocks of its own. -/
set_option linter.unusedVariables false
set_option linter.unusedSimpArgs false
namespace Go.Proofs.Ytpeghnhaekebdaa
open Go.RowKit

def BoxRow (n₁ B : Nat) (t e : TypeId) (size k : Nat) (xs : List Value) (m : Nat → Prop) (W : World) : Prop := ∃ v, Blk W B t #[v] ∧ W.ownsRow n₁ e size v k xs ∧ ¬ m B ∧ ∀ g, v.ownBlock = some g → ¬ m g
/-- With what lies behind. -/
def RowI {β : Type} (w : World) (n₁ B : Nat) (t e : TypeId) (size : Nat) (k : β → Nat) (f : β → List Value) (m : Nat → Prop) (s : β) (W : World) : Prop := BoxRow n₁ B t e size (k s) (f s) m W ∧ Below n₁ w W ∧ ∀ r, m r → n₁ ≤ r
theorem RowI.abides {β : Type} {w : World} {n₁ B : Nat} {t e : TypeId} {size : Nat} {k : β → Nat} {f : β → List Value} (hn : n₁ ≤ w.heap.size) : AbidesM (RowI w n₁ B t e size k f) := by
  rintro m m' s X Y ⟨⟨v, hv, hr, h1, h2⟩, hB, hm⟩ hT hmm
  have hs := hB.size
  refine ⟨⟨v, hT.blk hv h1, hT.row hr h2, fun h => (hmm _ h).elim h1 (by have := hv.lt; omega), fun g hg h => (hmm _ h).elim (h2 g hg) (by have := (hr.lt g hg).2; omega)⟩,
    hB.trans (hT.below (by omega) hm), fun r h => (hmm r h).elim (hm r) (by omega)⟩
theorem RowI.book {β : Type} {w : World} {n₁ B D : Nat} {t e : TypeId} {size : Nat} {k : β → Nat} {f : β → List Value} (hn : n₁ ≤ w.heap.size) (hD : n₁ ≤ D) : Book D (RowI w n₁ B t e size k f) := by
  rintro m s X Y row ⟨⟨v, hv, hr, h1, h2⟩, hB, hm⟩ hg hrow
  have hb := blkRow_own (β := Unit) n₁ B t e size (fun _ => k s) (fun _ => f s) (fun v => #[v])
  refine ⟨⟨v, ?_, ?_, h1, h2⟩, hB.grown hg (Nat.le_trans hn hB.size) (fun r e => by have := (hrow r e).1; omega), hm⟩
  · refine hv.kept hg (fun e' => ?_)
    obtain ⟨_, o, ho, hc⟩ := hrow B e'.symm
    rw [show X.heap[B]? = _ from hv] at ho; cases ho; cases hc
  · rcases hr.2 with ⟨rfl, _⟩ | ⟨g, cap, cur, rfl, _, hgb, _⟩
    · exact hr.kept hg (.inl rfl)
    · refine hr.kept hg (.inr fun e' => ?_)
      obtain ⟨_, o, ho, hc⟩ := hrow g (by simpa [Value.ownBlock] using e'.symm)
      rw [hgb] at ho; cases ho; cases hc

/-- A box that the iterator leaves alone. -/
def BlkI {β : Type} (B : Nat) (t : TypeId) (cs : Array Value) (m : Nat → Prop) (_ : β) (W : World) : Prop := Blk W B t cs ∧ ¬ m B
theorem BlkI.abides {β : Type} {B : Nat} {t : TypeId} {cs : Array Value} : AbidesM (BlkI (β := β) B t cs) := fun _ _ _ _ _ h hT hmm => ⟨hT.blk h.1 h.2, fun e => (hmm _ e).elim h.2 (by have := h.1.lt; omega)⟩
theorem BlkI.book {β : Type} {B D : Nat} {t : TypeId} {cs : Array Value} : Book D (BlkI (β := β) B t cs) := by
  rintro m s X Y row ⟨hv, h1⟩ hg hrow
  refine ⟨hv.kept hg (fun e' => ?_), h1⟩
  obtain ⟨_, o, ho, hc⟩ := hrow B e'.symm
  rw [show X.heap[B]? = _ from hv] at ho; cases ho; cases hc
theorem AbidesM.and {β : Type} {I J : (Nat → Prop) → β → World → Prop} (h : AbidesM I) (k : AbidesM J) : AbidesM (fun m s W => I m s W ∧ J m s W) := fun m m' s A B hs hT hm => ⟨h m m' s A B hs.1 hT hm, k m m' s A B hs.2 hT hm⟩
theorem Book.and {β : Type} {D : Nat} {I J : (Nat → Prop) → β → World → Prop} (h : Book D I) (k : Book D J) : Book D (fun m s W => I m s W ∧ J m s W) := fun m s A B row hs hg hr => ⟨h m s A B row hs.1 hg hr, k m s A B row hs.2 hg hr⟩

section
variable {P : Program} {l n : Nat}
/-- An append as one step of a region that draws its order, in a round. -/
theorem stepG_append_here {ops : Array Oper} {o : Oper} {a : Act} {w : World} {K : Act → World → Prop} {Q : Exit → Act → World → Prop} {E : Prop} (hgd : o.guard = none) (s x : Operand) (t e : TypeId)
    (ho : o.op = .call { callee := .builtin .append, args := #[s, x], argTypes := #[t, t] })
    {i : TypeInfo} {z : Value} {size bytes : Nat} (ht : P.underlying t = some (.slice e)) (hi : P.info? e = some i) (hz : i.zero = some z)
    (hsize : i.size = size) (hby : i.bytes = bytes) (hzs : z.cells.size = size) (hsz : 0 < size) (hbs : bytes ≤ 128)
    (base : Nat) {v : Value} {k : Nat} {xs : List Value} (ad : Addr) (m : Nat) (news : List Value) (hs : a.eval s = v) (hx : a.eval x = .slice (some ad) m m) (hown : w.ownsRow base e size v k xs)
    (hm : news.length = m * size) (hnews : ∀ j u, news[j]? = some u → w.cell? (ad.add j) = some u) (h1 : ∀ u ∈ news, u.oneCell' = true) (hb : k + m ≤ 1099511627776) (hbase : base ≤ w.heap.size)
    (hK : ∀ v' w', w'.ownsRow base e size v' (k + m) (xs ++ news) → w.grownBy w' v.ownBlock → (∀ g, v'.ownBlock = some g → v.ownBlock = some g ∨ w.heap.size ≤ g) → K (a.put o.dst v') w') :
    if Region.wanted o (yielded ops a.tmps) = true then Oper.wpIn (Fence.wide.inRound l) n P o a w K Q else E := by
  rw [if_pos (by simp [Region.wanted, hgd])]
  refine oper_round (by rw [ho]; intro c h; cases h) (wp_append_here s x t ho base e i z size bytes ht hi hz hsize hby hzs hsz v k xs hs hown ad m m news hx hm hnews h1 (by unfold maxLen; omega) ?_ hbase hK)
  calc (k + m) * bytes ≤ 1099511627776 * 128 := Nat.mul_le_mul hb hbs
    _ ≤ 140737488355328 := by decide
end
/-- 'x = append(x, ..)' in a round: the box and the row behind it. -/
theorem boxrow_next {W W2 w1 : World} {n₁ B : Nat} {t e : TypeId} {size k k' : Nat} {xs ys : List Value} {tmp : Obj} {m : Nat → Prop} {v v' : Value} (hte : t ≠ e)
    (hv : Blk W B t #[v]) (hrow : W.ownsRow n₁ e size v k xs) (hm1 : ¬ m B) (hm2 : ∀ g, v.ownBlock = some g → ¬ m g) (hms : ∀ r, m r → r < W.heap.size) (hn : n₁ ≤ W.heap.size) (hB : n₁ ≤ B) (h2 : Below W.heap.size W W2)
    (hown' : w1.ownsRow n₁ e size v' k' ys) (hgrow : (W2.alloc tmp).grownBy w1 v.ownBlock) (hnew : ∀ g, v'.ownBlock = some g → v.ownBlock = some g ∨ (W2.alloc tmp).heap.size ≤ g) :
    KeepsOthers W (w1.setCell ⟨B, 0, none⟩ v') ∧ KeptM n₁ m W (w1.setCell ⟨B, 0, none⟩ v') ∧ BoxRow n₁ B t e size k' ys m (w1.setCell ⟨B, 0, none⟩ v') := by
  obtain ⟨q1, q2, q3, q4, q5⟩ := hv.appended (i := 0) hte hrow hn hB h2 hown' hgrow
  have hs2 := h2.size
  refine ⟨q4, ⟨q5, fun r hr => ?_⟩, ⟨v', q2, q3, hm1, fun g hg h => (hnew g hg).elim (fun h' => hm2 g h' h) (fun h' => by have := hms g h; rw [World.size_alloc] at h'; omega)⟩⟩
  have hr0 := hms r hr
  rw [Below.heap_setCell _ _ _ r (fun e => hm1 (by rw [show B = r from e.symm]; exact hr)), hgrow.block r (by rw [World.size_alloc]; omega) (fun e => hm2 r e.symm hr), Below.heap_alloc _ _ _ (by omega), h2.block r hr0]
end Go.Proofs.Ytpeghnhaekebdaa

/- strings.Builder: a writing method's check, and WriteString. -/
set_option linter.unusedVariables false
set_option linter.unusedSimpArgs false
namespace Go.Proofs.Ytpeghnhaekebdaa
open Go.RowKit Go.Shelf

set_option maxHeartbeats 1000000 in
set_option maxRecDepth 100000 in
theorem copyCheck_used (b : Nat) (w : World) (h0 : w.cell? ⟨b, 0, none⟩ = some (.pointer (some ⟨b, 0, none⟩))) :
    Calls Try.prog 68 #[.pointer (some ⟨b, 0, none⟩)] w fun e w' => e = .returned (.tuple #[]) ∧ w' = w := by
  obtain ⟨j, hj, _⟩ := Option.map_eq_some_iff.1 (show (Try.prog.info? 98).map (·.size) = some 2 from by kernel_rfl)
  go_enter Try.func68, Try.ntmps68
  go_wp2
  rw [Lib.run_neq_ptr_same w _ Try.underlying95 hj]
  go_wp2
  go_end0
  exact ⟨rfl, rfl⟩

set_option maxHeartbeats 1000000 in
set_option maxRecDepth 100000 in
theorem copyCheck_fresh (b : Nat) (w : World) (h0 : w.cell? ⟨b, 0, none⟩ = some (.pointer none)) (hsh : w.shape? b = some (98, 2)) (hfz : w.frozen? ⟨b, 0, none⟩ = false) :
    Calls Try.prog 68 #[.pointer (some ⟨b, 0, none⟩)] w fun e w' => e = .returned (.tuple #[]) ∧ w' = w.setCell ⟨b, 0, none⟩ (.pointer (some ⟨b, 0, none⟩)) := by
  obtain ⟨j, hj, hjs⟩ := Option.map_eq_some_iff.1 (show (Try.prog.info? 98).map (·.size) = some 2 from by kernel_rfl)
  have hlies : liesAt Try.prog Try.prog.depth 98 (2 / Try.prog.cellsOf 98) 0 98 1 = true := by kernel_rfl
  go_enter Try.func68, Try.ntmps68
  go_wp2
  rw [Lib.run_to_unsafe w ⟨b, 0, none⟩ Try.underlying95 Try.underlying109 hj (by rw [hjs]; decide) hsh (Nat.zero_lt_succ 1)]
  simp only [Result.andThen]
  rw [Oper.upon_value]
  go_wp2
  rw [run_callFunc_extern Try.func71 (by kernel_rfl) (by kernel_rfl) (by kernel_rfl) (e := Extern.AbiNoEscape.same) (by kernel_rfl)]
  rw [Lib.run_noEscape]
  simp only [Result.andThen]
  rw [Oper.upon_value]
  go_wp2
  rw [Lib.run_from_unsafe w ⟨b, 0, none⟩ Try.underlying109 Try.underlying95 hj hsh hlies]
  simp only [Result.andThen]
  rw [Oper.upon_value]
  go_wp2
  go_end0
  exact ⟨rfl, rfl⟩

/-- A writing method's check: behind it the builder is used. -/
theorem copyCheck_any (B b : Nat) (bs : List Value) (w : World) (h : Lib.IsBuilder 98 5 B b bs w) :
    Calls Try.prog 68 #[.pointer (some ⟨b, 0, none⟩)] w fun e w' => e = .returned (.tuple #[]) ∧ (Lib.BuilderAt 98 5 B b (.pointer (some ⟨b, 0, none⟩)) bs w' ∧ Below B w w') := by
  rcases h with h | h
  · refine (copyCheck_fresh b w h.cell0 h.shape h.frozen0).mono ?_
    rintro e w' ⟨rfl, rfl⟩
    exact ⟨rfl, h.used _, (Below.refl B w).setCell (p := ⟨b, 0, none⟩) h.1 _⟩
  · refine (copyCheck_used b w h.cell0).mono ?_
    rintro e w' ⟨rfl, rfl⟩
    exact ⟨rfl, h, Below.refl B _⟩

theorem Try.infoByte : (Try.prog.info? 5).map (fun i => (i.zero, i.size, i.bytes)) = some (some (.int .u8 0), 1, 1) := by kernel_rfl

set_option maxHeartbeats 2000000 in
set_option maxRecDepth 100000 in
theorem WriteString_any (B b : Nat) (bs : List UInt8) (l : List UInt8) (w : World) (h : Lib.IsBuilder 98 5 B b (bytesV bs) w) (hlen : bs.length + l.length ≤ 1000000000) (hBw : B ≤ w.heap.size) :
    Calls Try.prog 60 #[.pointer (some ⟨b, 0, none⟩), .string ⟨l.toArray⟩] w fun e w' => e = .returned (.tuple #[.int .i64 l.length, .nilIface]) ∧ (Lib.IsBuilder 98 5 B b (bytesV (bs ++ l)) w' ∧ Below B w w') := by
  obtain ⟨i0, hi, hz0, hz1, hz2⟩ := info_parts Try.infoByte
  go_enter Try.func60, Try.ntmps60
  go_wp2_with fail
  refine (copyCheck_any B b _ _ h).mono ?_
  rintro e w1 ⟨rfl, h1, hb1⟩
  obtain ⟨hB, v, hbk, hown, hne⟩ := h1
  have c0 : w1.cell? ⟨b, 0, none⟩ = some (.pointer (some ⟨b, 0, none⟩)) := by rw [Lib.cell_of_heap hbk]; rfl
  have c1 : w1.cell? ⟨b, 1, none⟩ = some v := by rw [Lib.cell_of_heap hbk]; rfl
  go_wp2_with (at_builtin; refine Lib.wpList_append_own_string _ rfl _ _ 96 9 rfl B 5 i0 Try.underlying96 Try.underlying9 hi hz0 hz1 hz2 _ _ _ rfl hown ⟨l.toArray⟩ rfl ?c3 ?c4 ?c5 ?_)
  case c3 => simp [bytesV, ByteArray.size]; unfold maxLen; omega
  case c4 => simp [bytesV, ByteArray.size]; omega
  case c5 => have := hb1.size; omega
  intro v' w2 hown' hgrow _
  have hlt : b < w1.heap.size := by
    rcases Nat.lt_or_ge b w1.heap.size with h' | h'
    · exact h'
    · simp [Array.getElem?_eq_none h'] at hbk
  have hb2 : w2.heap[b]? = some (.cells #[.pointer (some ⟨b, 0, none⟩), v] 98 (0, 0)) := by
    rw [hgrow.block b hlt (fun e => hne e.symm)]
    exact hbk
  have d0 : w2.cell? ⟨b, 0, none⟩ = some (.pointer (some ⟨b, 0, none⟩)) := by rw [Lib.cell_of_heap hb2]; rfl
  have d1 : w2.cell? ⟨b, 1, none⟩ = some v := by rw [Lib.cell_of_heap hb2]; rfl
  have f1 : w2.frozen? ⟨b, 1, none⟩ = false := Lib.frozen_of_heap hb2 1
  obtain ⟨ao, n', cap, rfl⟩ : ∃ ao n' cap, v' = .slice ao n' cap := by
    rcases hown'.2 with ⟨hv, _⟩ | ⟨g, cap, cur, hv, _⟩
    · exact ⟨_, _, _, hv⟩
    · exact ⟨_, _, _, hv⟩
  go_wp2
  go_ret2
  refine ⟨by simp [ByteArray.size], .inr ?_, ?_⟩
  · exact Lib.BuilderAt.put (T := 98) (e := 5) hB hb2 (bs' := bytesV (bs ++ l)) (by simpa [bytesV, Lib.strCells, ByteArray.size] using hown') (by decide)
  · exact (hb1.grown hgrow (by have := hb1.size; omega) (fun k hk => (hown.lt k hk).1)).setCell (p := ⟨b, 1, none⟩) hB _

/-- A builder as 'var b strings.Builder' lays it. -/
theorem builder_new (w : World) : Lib.IsBuilder 98 5 w.heap.size w.heap.size (bytesV []) (w.alloc (.cells #[.pointer none, .slice none 0 0] 98)) := by
  refine .inl ⟨Nat.le_refl _, .slice none 0 0, World.alloc_heap_new w _, World.ownsRow_nil _ _ _ _, by simp [Value.ownBlock]⟩

theorem builder_String (B b : Nat) (l : List UInt8) (w : World) (h : Lib.IsBuilder 98 5 B b (bytesV l) w) (hBw : B ≤ w.heap.size) :
    Calls Try.prog 61 #[.pointer (some ⟨b, 0, none⟩)] w fun e w' => e = .returned (.string ⟨l.toArray⟩) ∧ Below B w w' := Try.Builder_String_any B b l w h hBw
end Go.Proofs.Ytpeghnhaekebdaa

/- Walks: Put, Join. -/
set_option linter.unusedVariables false
set_option linter.unusedSimpArgs false
namespace Go.Proofs.Ytpeghnhaekebdaa
open Go.RowKit

abbrev pathA (a : Bool) (v : Value) (s : Bool) : Array Value := #[.bool a, v, .bool s]
theorem str_cell {w : World} {b off : Nat} {l : List (List UInt8)} (hc : ∀ i (h : i < l.length), w.cell? ⟨b, off + i, none⟩ = some (.string ⟨l[i].toArray⟩)) {k : Nat} (h : k < l.length) : w.cell? ⟨b, off + k, none⟩ = some (.string ⟨l[k].toArray⟩) := hc k h
theorem interB_next (ns : List (List UInt8)) (k : Nat) (h : k < ns.length) : interB (ns.take (k + 1)) = if k = 0 then ns[k] else interB (ns.take k) ++ 47 :: ns[k] := by
  rw [List.take_succ_eq_append_getElem h, interB_snoc]
  by_cases hk : k = 0
  · subst hk; simp
  · rw [if_neg hk, if_neg (by cases ns <;> cases k <;> simp_all)]
theorem putB_inter (a s : Bool) (ns : List (List UInt8)) : (interB ns).length ≤ (putB a ns s).length := by simp [putB]; omega
theorem putB_no (a s : Bool) (ns : List (List UInt8)) (h : s = false ∨ ns = []) : putB a ns s = (if a then [47] else []) ++ interB ns := by
  rcases h with rfl | rfl <;> simp [putB]
theorem putB_yes (a : Bool) (ns : List (List UInt8)) (h : 0 < ns.length) : putB a ns true = (if a then [47] else []) ++ interB ns ++ [47] := by
  have : ns.isEmpty = false := by rw [List.isEmpty_eq_false_iff]; rintro rfl; simp at h
  simp [putB, this]

set_option maxRecDepth 100000 in
set_option maxHeartbeats 4000000 in
theorem Put_true (s : Bool) (ns : List (List UInt8)) (v : Value) (w : World) (hv : Strs w v ns) (hl : ns.length ≤ 1000000) (hj : (interB ns).length ≤ 1000000) :
    Calls Try.prog 46 #[.agg (pathA true v s)] w fun e w' => e = .returned (.string ⟨(putB true ns s).toArray⟩) ∧ Below w.heap.size w w' := by
  obtain ⟨ad, ca, rfl, hm, HA0⟩ := hv
  have HA := Lib.hid HA0
  have HJ := Lib.hid hj
  clear HA0 hm hj
  have b0 := Blk.new w 77 (pathA true (.slice ad ns.length ca) s)
  have bb := builder_new (w.alloc (.cells (pathA true (.slice ad ns.length ca) s) 77))
  rw [World.size_alloc] at bb
  have hB0 : Below (w.heap.size + 1) (w.alloc (.cells (pathA true (.slice ad ns.length ca) s) 77)) ((w.alloc (.cells (pathA true (.slice ad ns.length ca) s) 77)).alloc (.cells #[.pointer none, .slice none 0 0] 98)) := (Below.refl _ _).alloc (by simp) _
  have hW0 : Below w.heap.size w (w.alloc (.cells (pathA true (.slice ad ns.length ca) s) 77)) := (Below.refl _ w).alloc (Nat.le_refl _) _
  have hs1 : (w.alloc (.cells (pathA true (.slice ad ns.length ca) s) 77)).heap.size = w.heap.size + 1 := by simp
  go_enter Try.func46, Try.ntmps46
  go_wp2_with fail
  refine (WriteString_any (w.heap.size + 1) (w.heap.size + 1) [] [47] _ bb (by decide) (by simp)).mono ?_
  rintro e w1 ⟨rfl, hb, h1⟩
  replace h1 := hB0.trans h1
  have bz : w1.cell? ⟨w.heap.size, 1, none⟩ = some (.slice ad ns.length ca) := (b0.below h1 (by simp)).cell 1
  go_wp2
  go_loopw [12] (fun i wr => ∃ k : Nat, k ≤ ns.length ∧ i = .int .i64 k ∧ Lib.IsBuilder 98 5 (w.heap.size + 1) (w.heap.size + 1) (bytesV ([47] ++ interB (ns.take k))) wr ∧ Below (w.heap.size + 1) (w.alloc (.cells (pathA true (.slice ad ns.length ca) s) 77)) wr) (fun i _ => ns.length - (intOf i).toNat)
  case atStart => exact ⟨0, Nat.zero_le _, rfl, by simpa [interB] using hb, h1⟩
  case round =>
    obtain ⟨k, hk, rfl, hbl, hBl⟩ := hrel
    have hsz := hBl.size
    rw [World.size_alloc] at hsz
    have hlen := Nat.le_trans (interB_take ns k) HJ.out
    by_cases hlt : k < ns.length
    · obtain ⟨ba, oa, rfl, hba, hca⟩ := HA.out (by omega)
      have c1 : wr.cell? ⟨ba, oa + k, none⟩ = some (.string ⟨ns[k].toArray⟩) := (hBl.cell (p := ⟨ba, oa + k, none⟩) (by simp; omega)).trans ((hW0.cell (p := ⟨ba, oa + k, none⟩) hba).trans (hca k hlt))
      clear hca
      have HN := Lib.hid (interB_next ns k hlt)
      have hlen2 := Nat.le_trans (interB_take ns (k + 1)) HJ.out
      by_cases h0 : 0 < k
      · have hkz : Hid (¬ k = 0) := by (show ¬ _); omega
        have hN2 := Lib.hid (HN.out.trans (if_neg hkz.out))
        rw [hN2.out, List.length_append, List.length_cons] at hlen2
        go_wp2_with fail
        refine (WriteString_any (w.heap.size + 1) (w.heap.size + 1) _ [47] _ hbl (by simp; omega) (by omega)).mono ?_
        rintro e w2 ⟨rfl, hb2, hB2⟩
        have c2 : w2.cell? ⟨ba, oa + k, none⟩ = some (.string ⟨ns[k].toArray⟩) := (hB2.cell (p := ⟨ba, oa + k, none⟩) (by simp; omega)).trans c1
        have hs2 := hB2.size
        clear c1
        go_wp2_with fail
        refine (WriteString_any (w.heap.size + 1) (w.heap.size + 1) _ ns[k] _ hb2 (by simp; omega) (by omega)).mono ?_
        rintro e w3 ⟨rfl, hb3, hB3⟩
        go_wp2
        go_roundw
        case rel => exact ⟨k + 1, by omega, by go_num, by rw [hN2.out]; simpa using hb3, (hBl.trans hB2).trans hB3⟩
        case measure => simp [intOf]; omega
      · obtain rfl : k = 0 := by omega
        have hN2 := Lib.hid (HN.out.trans (if_pos rfl))
        have c0 : wr.cell? ⟨ba, oa, none⟩ = some (.string ⟨ns[0].toArray⟩) := c1
        clear c1
        rw [hN2.out] at hlen2
        go_wp2_with fail
        refine (WriteString_any (w.heap.size + 1) (w.heap.size + 1) _ ns[0] _ hbl (by simp [interB]; omega) (by omega)).mono ?_
        rintro e w3 ⟨rfl, hb3, hB3⟩
        go_wp2
        go_roundw
        case rel => exact ⟨1, by omega, by go_num, by rw [hN2.out]; simpa [interB] using hb3, hBl.trans hB3⟩
        case measure => simp [intOf]; omega
    · obtain rfl : k = ns.length := by omega
      rw [List.take_length] at hbl hlen
      have bx := b0.below hBl (by simp)
      have x1 := bx.cell 1
      have x2 := bx.cell 2
      simp at x1 x2
      cases s
      · have HP := Lib.hid (putB_no true false ns (.inl rfl))
        go_wp2_with fail
        refine (builder_String (w.heap.size + 1) (w.heap.size + 1) _ _ hbl (by omega)).mono ?_
        rintro e w3 ⟨rfl, hB3⟩
        go_wp2
        go_ret
        exact ⟨ret_str (by rw [HP.out]; rfl), hW0.trans ((hBl.trans hB3).mono (by simp))⟩
      · by_cases hn : 0 < ns.length
        · have HP := Lib.hid (putB_yes true ns hn)
          go_wp2_with fail
          refine (WriteString_any (w.heap.size + 1) (w.heap.size + 1) _ [47] _ hbl (by simp; omega) (by omega)).mono ?_
          rintro e w2 ⟨rfl, hb2, hB2⟩
          have hs2 := hB2.size
          go_wp2_with fail
          refine (builder_String (w.heap.size + 1) (w.heap.size + 1) _ _ hb2 (by omega)).mono ?_
          rintro e w3 ⟨rfl, hB3⟩
          go_wp2
          go_ret
          exact ⟨ret_str (by rw [HP.out]; rfl), hW0.trans (((hBl.trans hB2).trans hB3).mono (by simp))⟩
        · have HP := Lib.hid (putB_no true true ns (.inr (List.eq_nil_of_length_eq_zero (by omega))))
          go_wp2_with fail
          refine (builder_String (w.heap.size + 1) (w.heap.size + 1) _ _ hbl (by omega)).mono ?_
          rintro e w3 ⟨rfl, hB3⟩
          go_wp2
          go_ret
          exact ⟨ret_str (by rw [HP.out]; rfl), hW0.trans ((hBl.trans hB3).mono (by simp))⟩

set_option maxRecDepth 100000 in
set_option maxHeartbeats 4000000 in
theorem Put_false (s : Bool) (ns : List (List UInt8)) (v : Value) (w : World) (hv : Strs w v ns) (hl : ns.length ≤ 1000000) (hj : (interB ns).length ≤ 1000000) :
    Calls Try.prog 46 #[.agg (pathA false v s)] w fun e w' => e = .returned (.string ⟨(putB false ns s).toArray⟩) ∧ Below w.heap.size w w' := by
  obtain ⟨ad, ca, rfl, hm, HA0⟩ := hv
  have HA := Lib.hid HA0
  have HJ := Lib.hid hj
  clear HA0 hm hj
  have b0 := Blk.new w 77 (pathA false (.slice ad ns.length ca) s)
  have bb := builder_new (w.alloc (.cells (pathA false (.slice ad ns.length ca) s) 77))
  rw [World.size_alloc] at bb
  have hB0 : Below (w.heap.size + 1) (w.alloc (.cells (pathA false (.slice ad ns.length ca) s) 77)) ((w.alloc (.cells (pathA false (.slice ad ns.length ca) s) 77)).alloc (.cells #[.pointer none, .slice none 0 0] 98)) := (Below.refl _ _).alloc (by simp) _
  have hW0 : Below w.heap.size w (w.alloc (.cells (pathA false (.slice ad ns.length ca) s) 77)) := (Below.refl _ w).alloc (Nat.le_refl _) _
  have hs1 : (w.alloc (.cells (pathA false (.slice ad ns.length ca) s) 77)).heap.size = w.heap.size + 1 := by simp
  go_enter Try.func46, Try.ntmps46
  have h1 := hB0
  have hb := bb
  go_wp2
  go_loopw [12] (fun i wr => ∃ k : Nat, k ≤ ns.length ∧ i = .int .i64 k ∧ Lib.IsBuilder 98 5 (w.heap.size + 1) (w.heap.size + 1) (bytesV ([] ++ interB (ns.take k))) wr ∧ Below (w.heap.size + 1) (w.alloc (.cells (pathA false (.slice ad ns.length ca) s) 77)) wr) (fun i _ => ns.length - (intOf i).toNat)
  case atStart => exact ⟨0, Nat.zero_le _, rfl, by simpa [interB] using hb, h1⟩
  case round =>
    obtain ⟨k, hk, rfl, hbl, hBl⟩ := hrel
    have hsz := hBl.size
    rw [World.size_alloc] at hsz
    have hlen := Nat.le_trans (interB_take ns k) HJ.out
    by_cases hlt : k < ns.length
    · obtain ⟨ba, oa, rfl, hba, hca⟩ := HA.out (by omega)
      have c1 : wr.cell? ⟨ba, oa + k, none⟩ = some (.string ⟨ns[k].toArray⟩) := (hBl.cell (p := ⟨ba, oa + k, none⟩) (by simp; omega)).trans ((hW0.cell (p := ⟨ba, oa + k, none⟩) hba).trans (hca k hlt))
      clear hca
      have HN := Lib.hid (interB_next ns k hlt)
      have hlen2 := Nat.le_trans (interB_take ns (k + 1)) HJ.out
      by_cases h0 : 0 < k
      · have hkz : Hid (¬ k = 0) := by (show ¬ _); omega
        have hN2 := Lib.hid (HN.out.trans (if_neg hkz.out))
        rw [hN2.out, List.length_append, List.length_cons] at hlen2
        go_wp2_with fail
        refine (WriteString_any (w.heap.size + 1) (w.heap.size + 1) _ [47] _ hbl (by simp; omega) (by omega)).mono ?_
        rintro e w2 ⟨rfl, hb2, hB2⟩
        have c2 : w2.cell? ⟨ba, oa + k, none⟩ = some (.string ⟨ns[k].toArray⟩) := (hB2.cell (p := ⟨ba, oa + k, none⟩) (by simp; omega)).trans c1
        have hs2 := hB2.size
        clear c1
        go_wp2_with fail
        refine (WriteString_any (w.heap.size + 1) (w.heap.size + 1) _ ns[k] _ hb2 (by simp; omega) (by omega)).mono ?_
        rintro e w3 ⟨rfl, hb3, hB3⟩
        go_wp2
        go_roundw
        case rel => exact ⟨k + 1, by omega, by go_num, by rw [hN2.out]; simpa using hb3, (hBl.trans hB2).trans hB3⟩
        case measure => simp [intOf]; omega
      · obtain rfl : k = 0 := by omega
        have hN2 := Lib.hid (HN.out.trans (if_pos rfl))
        have c0 : wr.cell? ⟨ba, oa, none⟩ = some (.string ⟨ns[0].toArray⟩) := c1
        clear c1
        rw [hN2.out] at hlen2
        go_wp2_with fail
        refine (WriteString_any (w.heap.size + 1) (w.heap.size + 1) _ ns[0] _ hbl (by simp [interB]; omega) (by omega)).mono ?_
        rintro e w3 ⟨rfl, hb3, hB3⟩
        go_wp2
        go_roundw
        case rel => exact ⟨1, by omega, by go_num, by rw [hN2.out]; simpa [interB] using hb3, hBl.trans hB3⟩
        case measure => simp [intOf]; omega
    · obtain rfl : k = ns.length := by omega
      rw [List.take_length] at hbl hlen
      have bx := b0.below hBl (by simp)
      have x1 := bx.cell 1
      have x2 := bx.cell 2
      simp at x1 x2
      cases s
      · have HP := Lib.hid (putB_no false false ns (.inl rfl))
        go_wp2_with fail
        refine (builder_String (w.heap.size + 1) (w.heap.size + 1) _ _ hbl (by omega)).mono ?_
        rintro e w3 ⟨rfl, hB3⟩
        go_wp2
        go_ret
        exact ⟨ret_str (by rw [HP.out]; rfl), hW0.trans ((hBl.trans hB3).mono (by simp))⟩
      · by_cases hn : 0 < ns.length
        · have HP := Lib.hid (putB_yes false ns hn)
          go_wp2_with fail
          refine (WriteString_any (w.heap.size + 1) (w.heap.size + 1) _ [47] _ hbl (by simp; omega) (by omega)).mono ?_
          rintro e w2 ⟨rfl, hb2, hB2⟩
          have hs2 := hB2.size
          go_wp2_with fail
          refine (builder_String (w.heap.size + 1) (w.heap.size + 1) _ _ hb2 (by omega)).mono ?_
          rintro e w3 ⟨rfl, hB3⟩
          go_wp2
          go_ret
          exact ⟨ret_str (by rw [HP.out]; rfl), hW0.trans (((hBl.trans hB2).trans hB3).mono (by simp))⟩
        · have HP := Lib.hid (putB_no false true ns (.inr (List.eq_nil_of_length_eq_zero (by omega))))
          go_wp2_with fail
          refine (builder_String (w.heap.size + 1) (w.heap.size + 1) _ _ hbl (by omega)).mono ?_
          rintro e w3 ⟨rfl, hB3⟩
          go_wp2
          go_ret
          exact ⟨ret_str (by rw [HP.out]; rfl), hW0.trans ((hBl.trans hB3).mono (by simp))⟩

theorem Put_any (a s : Bool) (ns : List (List UInt8)) (v : Value) (w : World) (hv : Strs w v ns) (hl : ns.length ≤ 1000000) (hj : (interB ns).length ≤ 1000000) :
    Calls Try.prog 46 #[.agg (pathA a v s)] w fun e w' => e = .returned (.string ⟨(putB a ns s).toArray⟩) ∧ Below w.heap.size w w' := by
  cases a
  · exact Put_false s ns v w hv hl hj
  · exact Put_true s ns v w hv hl hj

theorem Join_any (ns : List (List UInt8)) (v : Value) (w : World) (hv : Strs w v ns) (hl : ns.length ≤ 1000000) (hj : (interB ns).length ≤ 1000000) :
    Calls Try.prog 34 #[v] w fun e w' => e = .returned (.string ⟨(joinB ns).toArray⟩) ∧ Below w.heap.size w w' := by
  have hv2 := hv
  obtain ⟨ad, ca, rfl, hm, HA0⟩ := hv
  clear HA0
  go_enter Try.func34, Try.ntmps34
  go_wp2_with fail; refine (Put_any true false ns _ _ hv2 hl hj).mono ?_; rintro e w' ⟨rfl, hB⟩
  go_wp2
  go_ret
  exact ⟨ret_str (joinB_put ns), hB⟩
end Go.Proofs.Ytpeghnhaekebdaa

/- copy(dst, src) into a row known whole, at elements of whatever number of cells. No program's function. -/
set_option linter.unusedVariables false
set_option linter.unusedSimpArgs false
namespace Go.Proofs.Ytpeghnhaekebdaa
open Go.RowKit

theorem run_copy_size {P : Program} (w : World) (dT sT ty elem : TypeId) (sz : Nat) (g o dLen dCap : Nat) (a : Addr) (sLen sCap : Nat) (cur : Array Value) (t : TypeId) (cs : List Value)
    (hu : P.underlying dT = some (.slice elem)) (hs : (P.info? elem).map (·.size) = some sz)
    (hg : w.heap[g]? = some (.cells cur t (0, 0))) (hn : cs.length = Nat.min sLen dLen * sz)
    (hsrc : ∀ j v, cs[j]? = some v → w.cell? (a.add j) = some v) (hfit : o + cs.length ≤ cur.size) (h1 : ∀ v ∈ cs, v.oneCell' = true) :
    (Builtin.copy_ #[dT, sT] ty #[.slice (some ⟨g, o, none⟩) dLen dCap, .slice (some a) sLen sCap]).run P w =
      .ok (goInt (Nat.min sLen dLen)) (w.setRow g (cur.toList.take o ++ cs ++ cur.toList.drop (o + cs.length)).toArray) := by
  have hl := run_loadCells_list (P := P) w a cs hsrc
  have hst := run_storeCells_at P g o t cs 0 cur w hg (by simpa using hfit) h1
  cases hq : P.info? elem with
  | none => simp [hq] at hs
  | some i =>
    have hi : i.size = sz := by simpa [hq] using hs
    simp [Builtin.copy_, run_underlying hu, Builtin.lenOf, Builtin.firstCells, sizeOf, typeInfo, hq, hi, ← hn, hl, hst]

theorem run_copy_zero {P : Program} (w : World) (dT sT ty elem : TypeId) (sz : Nat) (d a : Option Addr) (dLen dCap sLen sCap : Nat) (hu : P.underlying dT = some (.slice elem)) (hs : (P.info? elem).map (·.size) = some sz) (hn : Nat.min sLen dLen = 0) :
    (Builtin.copy_ #[dT, sT] ty #[.slice d dLen dCap, .slice a sLen sCap]).run P w = .ok (goInt 0) w := by
  cases hq : P.info? elem with
  | none => simp [hq] at hs
  | some i =>
    have hl : ∀ (x : Addr), (loadCells x 0).run P w = .ok #[] w := fun x => by simpa using run_loadCells_list (P := P) w x [] (by simp)
    cases d <;> cases a <;> simp [Builtin.copy_, run_underlying hu, Builtin.lenOf, Builtin.firstCells, sizeOf, typeInfo, hq, hn, storeCells, hl]

/-- The run, to be laid ahead of the walk. -/
theorem run_copy_splice {P : Program} (w : World) (dT sT ty elem : TypeId) (sz : Nat) (hu : P.underlying dT = some (.slice elem)) (hsz : (P.info? elem).map (·.size) = some sz)
    (g off dLen dCap : Nat) (sp : Option Addr) (sLen sCap m : Nat) (hm : Nat.min sLen dLen = m) (cur : List Value) (t : TypeId) (hg : w.heap[g]? = some (.cells cur.toArray t (0, 0))) (cs : List Value) (hn : cs.length = m * sz)
    (hpos : 0 < m → ∃ ad, sp = some ad ∧ ∀ j v, cs[j]? = some v → w.cell? (ad.add j) = some v) (hfit : off + cs.length ≤ cur.length) (h1 : ∀ v ∈ cs, v.oneCell' = true) :
    ∃ w', (Builtin.copy_ #[dT, sT] ty #[.slice (some ⟨g, off, none⟩) dLen dCap, .slice sp sLen sCap]).run P w = .ok (goInt m) w' ∧ w'.heap[g]? = some (.cells (splice cur off cs).toArray t (0, 0)) ∧ ∀ B w0, Below B w0 w → B ≤ g → Below B w0 w' := by
  by_cases h0 : m = 0
  · subst h0
    obtain rfl : cs = [] := List.eq_nil_of_length_eq_zero (by simpa using hn)
    exact ⟨w, run_copy_zero w dT sT ty elem sz _ _ _ _ _ _ hu hsz hm, by simpa [splice] using hg, fun B w0 hb _ => hb⟩
  · obtain ⟨ad, rfl, hsrc⟩ := hpos (by omega)
    have hrun := run_copy_size (P := P) w dT sT ty elem sz g off dLen dCap ad sLen sCap cur.toArray t cs hu hsz hg (by rw [hm]; exact hn) hsrc (by simpa using hfit) h1
    rw [hm] at hrun
    exact ⟨_, hrun, by simpa [splice] using setRow_heap w g _ _ t _ hg, fun B w0 hb hBg => below_setRow hb hBg _⟩

theorem wpList_copy_size {P : Program} {w : World} {ops : Array Oper} {rest : List Oper} {o : Oper} {a : Act} {Q : Exit → Act → World → Prop} (hgd : o.guard = none) (d s : Operand) (dT sT : TypeId)
    (ho : o.op = .call { callee := .builtin .copy, args := #[d, s], argTypes := #[dT, sT] }) (elem : TypeId) (sz : Nat) (hu : P.underlying dT = some (.slice elem)) (hsz : (P.info? elem).map (·.size) = some sz)
    (dp sp : Option Addr) (dLen dCap sLen sCap : Nat) (hd : a.eval d = .slice dp dLen dCap) (hs : a.eval s = .slice sp sLen sCap) (m : Nat) (hm : Nat.min sLen dLen = m)
    (g off : Nat) (cur : List Value) (t : TypeId) (hg : w.heap[g]? = some (.cells cur.toArray t (0, 0))) (cs : List Value) (hn : cs.length = m * sz)
    (hpos : 0 < m → dp = some ⟨g, off, none⟩ ∧ ∃ ad, sp = some ad ∧ ∀ j v, cs[j]? = some v → w.cell? (ad.add j) = some v)
    (hfit : off + cs.length ≤ cur.length) (h1 : ∀ v ∈ cs, v.oneCell' = true) (B : Nat) (w0 : World) (hb : Below B w0 w) (hBg : B ≤ g)
    (h : ∀ w', Hid (w'.heap[g]? = some (.cells (splice cur off cs).toArray t (0, 0))) → Below B w0 w' → wpList P ops Q rest (a.put o.dst (goInt m)) w') :
    wpList P ops Q (o :: rest) a w := by
  refine wpList_plain hgd fun K hK => ?_
  by_cases h0 : m = 0
  · subst h0
    obtain rfl : cs = [] := List.eq_nil_of_length_eq_zero (by simpa using hn)
    have hrun := run_copy_zero (P := P) w dT sT o.type elem sz dp sp dLen dCap sLen sCap hu hsz hm
    unfold Oper.wp
    simp [execOp, ho, resolve, invoke, builtin, hd, hs, hrun, Result.andThen]
    exact hK _ _ (h w (show _ = _ by simpa [splice] using hg) hb)
  · obtain ⟨rfl, ad, rfl, hsrc⟩ := hpos (by omega)
    have hrun := run_copy_size (P := P) w dT sT o.type elem sz g off dLen dCap ad sLen sCap cur.toArray t cs hu hsz hg (by rw [hm]; exact hn) hsrc (by simpa using hfit) h1
    rw [hm] at hrun
    unfold Oper.wp
    simp [execOp, ho, resolve, invoke, builtin, hd, hs, hrun, Result.andThen]
    exact hK _ _ (h _ (show _ = _ by simpa [splice] using setRow_heap w g _ _ t _ hg) (below_setRow hb hBg _))
end Go.Proofs.Ytpeghnhaekebdaa

/- Walks: the parts' entries in one list. -/
set_option linter.unusedVariables false
set_option linter.unusedSimpArgs false
namespace Go.Proofs.Ytpeghnhaekebdaa
open Go.RowKit

theorem infoE : (Try.prog.info? 59).map (fun i => (i.zero, i.size, i.bytes)) = some (some (.agg #[.string ⟨#[]⟩, .int .i64 0]), 2, 24) := by kernel_rfl
theorem sizeE : (Try.prog.info? 59).map (·.size) = some 2 := by kernel_rfl

/-- A slice of slices of entries. -/
def Parts (w : World) (v : Value) (ps : List (List Ent)) : Prop :=
  ∃ a cap, v = .slice a ps.length cap ∧ (0 < ps.length → ∃ b off, a = some ⟨b, off, none⟩ ∧ b < w.heap.size ∧ ∀ i (h : i < ps.length), ∃ x, w.cell? ⟨b, off + i, none⟩ = some x ∧ Ents w x ps[i])

/-- New entries: a block of the call's own. -/
def NewEnts (w : World) (L : List Ent) (e : Ending) (w' : World) : Prop :=
  ∃ g, e = .returned (.slice (some ⟨g, 0, none⟩) L.length L.length) ∧ w.heap.size ≤ g ∧ Blk w' g 59 (entsV L).toArray ∧ Below w.heap.size w w'
theorem blk_ents {w : World} {g : Nat} {t : TypeId} {L : List Ent} (h : Blk w g t (entsV L).toArray) (hl : L.length ≤ maxLen) : Ents w (.slice (some ⟨g, 0, none⟩) L.length L.length) L := by
  refine ⟨_, _, rfl, Nat.le_refl _, hl, fun _ => ⟨g, 0, rfl, h.lt, fun i hi => ?_⟩⟩
  rw [h.cell, h.cell, Nat.zero_add]
  simpa using entsV_at L i hi

theorem flat_take (ps : List (List Ent)) (k : Nat) (h : k < ps.length) : (ps.take (k + 1)).flatten = (ps.take k).flatten ++ ps[k] := by
  rw [List.take_succ_eq_append_getElem h, List.flatten_append]; simp
theorem flat_le (ps : List (List Ent)) (k : Nat) : (ps.take k).flatten.length ≤ ps.flatten.length := by
  conv => rhs; rw [← List.take_append_drop k ps, List.flatten_append, List.length_append]
  omega
theorem flat_mem {ps : List (List Ent)} {k : Nat} (h : k < ps.length) {e : Ent} (he : e ∈ ps[k]) : e ∈ ps.flatten := List.mem_flatten.2 ⟨_, List.getElem_mem h, he⟩

def flatN (ps : List (List Ent)) (k : Nat) : Nat := (ps.take k).flatten.length
theorem flatN_next {ps : List (List Ent)} {k : Nat} (h : k < ps.length) : flatN ps (k + 1) = flatN ps k + ps[k].length := by
  unfold flatN; rw [flat_take ps k h, List.length_append]
theorem flatN_le (ps : List (List Ent)) (k : Nat) : flatN ps k ≤ ps.flatten.length := flat_le ps k
theorem flatN_end (ps : List (List Ent)) : flatN ps ps.length = ps.flatten.length := by unfold flatN; rw [List.take_length]
theorem splice_ents (F p : List Ent) (Z : List Value) (h : p.length * 2 ≤ Z.length) : splice (entsV F ++ Z) (F.length * 2) (entsV p) = entsV (F ++ p) ++ Z.drop (p.length * 2) := by
  unfold splice
  rw [entsV_append, List.take_append_of_le_length (by rw [entsV_len]; exact Nat.le_refl _), List.take_of_length_le (by rw [entsV_len]; exact Nat.le_refl _), entsV_len,
    List.drop_append, entsV_len, List.drop_eq_nil_of_le (by rw [entsV_len]; omega), List.nil_append, show F.length * 2 + p.length * 2 - F.length * 2 = p.length * 2 from by omega, List.append_assoc]

end Go.Proofs.Ytpeghnhaekebdaa

/- Walks: package room, and the document's room. -/
set_option linter.unusedVariables false
set_option linter.unusedSimpArgs false
namespace Go.Proofs.Ytpeghnhaekebdaa
open Go.RowKit

set_option maxHeartbeats 2000000 in
theorem refBytes_any (mi mb nx : Int) (l : List Nd) (v : Value) (w : World) (hv : Nds w v l) (hl : l.length ≤ 1000000) (hs : bytesN l ≤ 1099511627776) :
    Calls Try.prog 43 #[.agg (fsC mi mb nx v)] w fun e w' => e = .returned (.int .i64 (bytesN l : Int)) ∧ Below w.heap.size w w' := by
  obtain ⟨a, ca, rfl, hc, hm, hea, hna, HA0⟩ := id hv
  unfold maxLen at hm
  have HA := Lib.hid HA0
  have HE := Lib.hid hea
  clear HA0 hea hv
  have b0 := Blk.new w 24 (fsC mi mb nx (.slice a l.length ca))
  have hB0 := alloc_below w (.cells (fsC mi mb nx (.slice a l.length ca)) 24)
  go_enter Try.func43, Try.ntmps43
  go_wp2
  go_loopw [3, 4] (fun s3 s4 wr => ∃ k : Nat, k ≤ l.length ∧ s4 = .int .i64 k ∧ s3 = .int .i64 (bytesN (l.take k) : Int) ∧ wr = w.alloc (.cells (fsC mi mb nx (.slice a l.length ca)) 24)) (fun _ s4 _ => l.length - (intOf s4).toNat)
  case atStart => exact ⟨0, Nat.zero_le _, rfl, rfl, rfl⟩
  case round =>
    obtain ⟨k, hk, rfl, rfl, rfl⟩ := hrel
    have p3 := b0.four.1.2.2.2
    generalize w.alloc (.cells (fsC mi mb nx (.slice a l.length ca)) 24) = wr at *
    by_cases hlt : k < l.length
    · obtain ⟨b, o, rfl, hb, hcl⟩ := HA.out (by omega)
      obtain ⟨c0, c1, c2, c3, c4, c5⟩ := (hcl k hlt).below hB0 hb
      clear hcl
      have hnx := bytesN_next hlt
      have hle := bytesN_take l (k + 1)
      generalize l[k] = y at *
      generalize hT : bytesN (l.take (k + 1)) = T at *
      have HT := Lib.hid hT
      generalize bytesN (l.take k) = U at *
      have k0 : (0 : Int) ≤ (k : Int) := by omega
      have k1 : (k : Int) < (l.length : Int) := by omega
      obtain ⟨yi, yk, yl, yd, yp, ye, yn⟩ := y
      dsimp only at c0 c1 c2 c3 c4 c5
      clear hT
      cases h : (yk == 1)
      · have HC := Lib.hid (costN_no (x := ⟨yi, yk, yl, yd, yp, ye, yn⟩) (by simpa using h))
        rw [HC.out] at hnx
        go_wp2
        go_roundw
        case rel => exact ⟨k + 1, by omega, by go_num, by rw [HT.out, hnx]; go_num, trivial⟩
        case measure => simp [intOf]; omega
      · have HC := Lib.hid (costN_yes (x := ⟨yi, yk, yl, yd, yp, ye, yn⟩) (by simpa using h))
        rw [HC.out] at hnx
        dsimp only at hnx
        go_wp2
        go_roundw
        case rel => exact ⟨k + 1, by omega, by go_num, by rw [HT.out, hnx]; go_num, trivial⟩
        case measure => simp [intOf]; omega
    · obtain rfl : k = l.length := by omega
      have HN := Lib.hid (bytesN_end l)
      go_wp2
      go_ret
      exact ⟨by rw [HN.out]; rfl, hB0⟩

set_option maxHeartbeats 2000000 in
theorem refFits_any (mi mb nx i b : Int) (l : List Nd) (v : Value) (w : World) (hv : Nds w v l) (hl : l.length ≤ 1000000) (hs : bytesN l ≤ 1099511627776) (hi : -1099511627776 ≤ i ∧ i ≤ 1099511627776) (hb : -1099511627776 ≤ b ∧ b ≤ 1099511627776) :
    Calls Try.prog 32 #[.agg (fsC mi mb nx v), .int .i64 i, .int .i64 b] w fun e w' => e = .returned (.bool (fitsB mi mb l i b)) ∧ Below w.heap.size w w' := by
  obtain ⟨a, ca, rfl⟩ := nds_slice hv
  have b0 := Blk.new w 24 (fsC mi mb nx (.slice a l.length ca))
  have hB0 := alloc_below w (.cells (fsC mi mb nx (.slice a l.length ca)) 24)
  have nV := hv.below hB0
  clear hv
  obtain ⟨p0, p1, p2, p3⟩ := b0.four.1
  have n1 : IntKind.i64.wrap ((l.length : Int) + i) = (l.length : Int) + i := by rw [IntKind.wrap_i64]; omega
  have n2 : IntKind.i64.wrap ((bytesN l : Int) + b) = (bytesN l : Int) + b := by rw [IntKind.wrap_i64]; omega
  go_enter Try.func32, Try.ntmps32
  by_cases h1 : (l.length : Int) + i ≤ mi
  · have HF : Hid (fitsB mi mb l i b = decide ((bytesN l : Int) + b ≤ mb)) := by (show _ = _); unfold fitsB; rw [decide_eq_true h1, Bool.true_and]
    have h2 : ¬ ((l.length : Int) + i > mi) := by omega
    go_upto_region 3 with fail
    generalize hw1 : w.alloc (.cells (fsC mi mb nx (.slice a l.length ca)) 24) = w1 at *
    have HMK : ∀ W, Below w1.heap.size w1 W → (W.cell? ⟨w.heap.size, 0, none⟩ = some (.int .i64 mi) ∧ W.cell? ⟨w.heap.size, 1, none⟩ = some (.int .i64 mb) ∧ W.cell? ⟨w.heap.size, 2, none⟩ = some (.int .i64 nx) ∧ W.cell? ⟨w.heap.size, 3, none⟩ = some (.slice a l.length ca)) := by
      intro W h
      exact (b0.next h).four.1
    have hq := (Below.refl w1.heap.size w1).drew
    clear b0 p0 p1 p2 p3 hw1
    go_region_held3 (fun W => W.cell? ⟨w.heap.size, 0, none⟩ = some (.int .i64 mi) ∧ W.cell? ⟨w.heap.size, 1, none⟩ = some (.int .i64 mb) ∧ W.cell? ⟨w.heap.size, 2, none⟩ = some (.int .i64 nx) ∧ W.cell? ⟨w.heap.size, 3, none⟩ = some (.slice a l.length ca))
      (exact HMK _ hq)
      (first
        | (go_at_call 43; refine (refBytes_any mi mb nx l _ _ (nV.below hq) hl hs).mono ?_; rintro e wz ⟨rfl, bz⟩; have hq := hq.trans (bz.mono hq.size)))
    all_goals go_wp2
    all_goals go_ret
    all_goals exact ⟨ret_bool (by rw [HF.out]), hB0.trans (hq.mono hB0.size)⟩
  · have HF : Hid (fitsB mi mb l i b = false) := by (show _ = _); unfold fitsB; rw [decide_eq_false h1, Bool.false_and]
    have h2 : (l.length : Int) + i > mi := by omega
    go_wp2
    go_ret
    exact ⟨ret_bool (by rw [HF.out]), hB0⟩

def withinB (n : Int) : Bool := decide (-1099511627776 ≤ n) && decide (n ≤ 1099511627776)
end Go.Proofs.Ytpeghnhaekebdaa

/- What every statement's proof over this translation shares. -/
set_option linter.unusedVariables false
set_option linter.unusedSimpArgs false
namespace Go.Proofs.Ytpeghnhaekebdaa
open Go.ChangeShapes Go.WideShapes Go.ChangeAt Go.RowKit

set_option maxRecDepth 100000
theorem laidOut : laidOutB Try.prog = true := by kernel_rfl

def textOf5 : Value → List UInt8
  | .string s => s.data.toList
  | _ => []
def numOf5 : Value → Int
  | .int _ n => n
  | _ => 0

/-- A slice of entries, as its cell reads. -/
theorem ents_of_cell {H : Type} {enc : TypeId × Value → H} {W : World} {fuel : Nat} {cs : List Value} {y : DataW H × List MemPlace}
    (hf : DataW.trod enc Try.prog W 0 (fun _ => true) true fuel 31 cs = some y) : ∃ v l, cs = [v] ∧ Ents W v l := by
  rcases Deep.open_slice_pairs Try.underlying31 Try.underlying59 (by kernel_rfl) rfl rfl (by kernel_rfl) (by kernel_rfl) hf with ⟨hcs, _⟩ | ⟨a, len, cap, m, n, V0, V1, D0, D1, P0, P1, hcs, _, hl, hm, hz, hx, hcell⟩
  · exact ⟨_, [], hcs, Ents.nil_ W⟩
  · simp at hz
    subst hz
    refine ⟨_, (List.range len).map fun i => (textOf5 (V0 i), numOf5 (V1 i)), hcs, some a, m, by simp, by simpa using hl, hm, fun h => ?_⟩
    have hn : ((List.range len).map fun i => (textOf5 (V0 i), numOf5 (V1 i))).length = len := by simp
    rw [hn] at h
    have c0 := (hcell 0 (by omega)).1
    obtain ⟨b, off, spot⟩ := a
    have hspot : spot = none := by simpa [Addr.add] using World.cell?_spot c0
    subst hspot
    refine ⟨b, off, rfl, ?_, fun i hi => ?_⟩
    · rw [Addr.add_lit] at c0; exact World.block_lt_of_cell? W _ c0
    · rw [hn] at hi
      obtain ⟨e0, e1, t0, t1⟩ := hcell i (by omega)
      obtain ⟨s, hs, _, _⟩ := DataW.trod_string Try.underlying9 t0
      obtain ⟨z, hz, _, _⟩ := DataW.trod_int Try.underlying3 t1
      simp only [List.cons.injEq, and_true] at hs hz
      rw [Addr.add_lit] at e0 e1
      rw [hs] at e0
      rw [hz] at e1
      simp only [List.getElem_map, List.getElem_range, hs, hz, textOf5, numOf5]
      exact ⟨by rw [e0], by rw [← e1, Nat.add_assoc]⟩

theorem list6 {α : Type} {cs : List α} (h : cs.length = 6) : ∃ c0 c1 c2 c3 c4 c5, cs = [c0, c1, c2, c3, c4, c5] := by
  match cs, h with
  | [c0, c1, c2, c3, c4, c5], _ => exact ⟨c0, c1, c2, c3, c4, c5, rfl⟩
theorem size_int : Try.prog.cellsOf 3 = 1 := by kernel_rfl
theorem size_str : Try.prog.cellsOf 9 = 1 := by kernel_rfl
theorem size_ents : Try.prog.cellsOf 31 = 1 := by kernel_rfl
theorem size_nds : Try.prog.cellsOf 22 = 1 := by kernel_rfl
theorem size_nd : Try.prog.cellsOf 33 = 6 := by kernel_rfl
theorem size_fs : Try.prog.cellsOf 24 = 4 := by kernel_rfl

/-- An inode, as its six cells read; its content's length is one of the reading's weights. -/
theorem nd_of_cells {H : Type} {enc : TypeId × Value → H} {W : World} {fuel : Nat} {cs : List Value} {y : DataW H × List MemPlace}
    (hf : DataW.trod enc Try.prog W 0 (fun _ => true) true fuel 33 cs = some y) : ∃ x : Nd, cs = (ndC x).toList ∧ Ents W x.ev x.ents ∧ x.data.length ≤ maxLen ∧ x.data.length ∈ y.1.weights Try.prog 33 := by
  obtain ⟨xs, n, _, rfl, hl, hlen, hx⟩ := DataW.trod_struct Try.underlying33 hf
  obtain ⟨c0, c1, c2, c3, c4, c5, rfl⟩ := list6 (hl.trans size_nd)
  obtain ⟨y0, y1, y2, y3, y4, y5, rfl⟩ := list6 hlen
  have g0 := hx 0 _ rfl
  have g1 := hx 1 _ rfl
  have g2 := hx 2 _ rfl
  have g3 := hx 3 _ rfl
  have g4 := hx 4 _ rfl
  have g5 := hx 5 _ rfl
  simp [size_int, size_str, size_ents] at g0 g1 g2 g3 g4 g5
  obtain ⟨z0, e0, _, _⟩ := DataW.trod_int Try.underlying3 g0
  obtain ⟨z1, e1, _, _⟩ := DataW.trod_int Try.underlying3 g1
  obtain ⟨z2, e2, _, _⟩ := DataW.trod_int Try.underlying3 g2
  obtain ⟨s, e3, w3, m3⟩ := DataW.trod_string Try.underlying9 g3
  obtain ⟨z4, e4, _, _⟩ := DataW.trod_int Try.underlying3 g4
  obtain ⟨v, l, e5, h5⟩ := ents_of_cell g5
  simp only [List.cons.injEq, and_true] at e0 e1 e2 e3 e4 e5
  subst e0 e1 e2 e3 e4 e5
  refine ⟨⟨z0, z1, z2, s.data.toList, z4, c5, l⟩, by simp [ndC], h5, by simpa using m3, ?_⟩
  have hw := DataW.weights_mem_each (P := Try.prog) (ts := [3, 3, 3, 9, 3, 31]) (ds := [y0.1, y1.1, y2.1, y3.1, y4.1, y5.1]) (j := 3) rfl rfl s.data.toList.length (by rw [w3]; simp [DataW.weights])
  simp only [DataW.weights, Try.underlying33]
  exact hw
theorem weightsAll_mem {H : Type} {P : Program} {e : TypeId} {l : List (DataW H)} {d : DataW H} (h : d ∈ l) {n : Nat} (hn : n ∈ d.weights P e) : n ∈ DataW.weightsAll P e l := by
  induction l with
  | nil => cases h
  | cons x r ih =>
    simp only [DataW.weightsAll, List.mem_append]
    rcases List.mem_cons.1 h with rfl | h
    · exact .inl hn
    · exact .inr (ih h)

instance : Inhabited Nd := ⟨zeroN⟩
/-- A slice of inodes, as its cell reads. -/
theorem nds_of_cell {H : Type} {enc : TypeId × Value → H} {W : World} {fuel : Nat} {cs : List Value} {y : DataW H × List MemPlace}
    (hf : DataW.trod enc Try.prog W 0 (fun _ => true) true fuel 22 cs = some y) : ∃ v l, cs = [v] ∧ Nds W v l ∧ (∀ x ∈ l, x.data.length ≤ maxLen ∧ x.data.length ∈ y.1.weights Try.prog 22) := by
  rcases Deep.open_slice Try.underlying22 hf with ⟨hcs, _⟩ | ⟨a, len, cap, m, n, D, Pl, hcs, _, hl, hm, hmm, rfl, hcell⟩
  · exact ⟨_, [], hcs, Nds.nil_ W, fun x hx => absurd hx (by simp)⟩
  · simp at hmm
    subst hmm
    rw [size_nd] at hcell
    obtain ⟨X, hX⟩ := Deep.choose_lt (p := fun i (x : Nd) => (∀ j, j < 6 → W.cell? ((a.add (i * 6)).add j) = (ndC x).toList[j]?) ∧ Ents W x.ev x.ents ∧ x.data.length ≤ maxLen ∧ x.data.length ∈ (D i).weights Try.prog 33) (fun i (hi : i < m) => by
      obtain ⟨cs', h1, h2⟩ := hcell i hi
      obtain ⟨_, _, h3⟩ := World.cells?_some h1
      obtain ⟨x, rfl, hx⟩ := nd_of_cells h2
      exact ⟨x, h3, hx⟩)
    have hn : ((List.range len).map X).length = len := by simp
    refine ⟨_, (List.range len).map X, hcs, ⟨some a, m, by simp, by simpa using hl, hm, ?_, (fun h => by cases h), fun h => ?_⟩, ?_⟩
    · intro x hx
      obtain ⟨i, hi, rfl⟩ := List.mem_map.1 hx
      exact (hX i (by have := List.mem_range.1 hi; omega)).2.1
    · rw [hn] at h
      have c0 := (hX 0 (by omega)).1 0 (by omega)
      obtain ⟨b, off, spot⟩ := a
      have hspot : spot = none := by
        have := World.cell?_spot (c0.trans (rfl : _ = some (Value.int .i64 (X 0).ino)))
        simpa [Addr.add] using this
      subst hspot
      refine ⟨b, off, rfl, ?_, fun i hi => ?_⟩
      · have := World.block_lt_of_cell? W _ (c0.trans (rfl : _ = some (Value.int .i64 (X 0).ino)))
        simpa [Addr.add] using this
      · rw [hn] at hi
        have hc := (hX i (by omega)).1
        simp only [Addr.add_lit] at hc
        simp only [List.getElem_map, List.getElem_range]
        exact ⟨(hc 0 (by omega)).trans rfl, (hc 1 (by omega)).trans rfl, (hc 2 (by omega)).trans rfl, (hc 3 (by omega)).trans rfl, (hc 4 (by omega)).trans rfl, (hc 5 (by omega)).trans rfl⟩
    · intro x hx
      obtain ⟨i, hi, rfl⟩ := List.mem_map.1 hx
      have hi2 := List.mem_range.1 hi
      have h3 := (hX i (by omega)).2.2
      refine ⟨h3.1, ?_⟩
      simp only [DataW.weights, Try.underlying22, List.mem_cons, List.mem_append]
      exact .inr (.inl (weightsAll_mem (List.mem_map.2 ⟨i, hi, rfl⟩) h3.2))

theorem nds_of_trod {H : Type} {enc : TypeId × Value → H} {W : World} {v : Value} {d : DataW H} {p : List MemPlace}
    (k : DataW.Trod enc Try.prog W 0 (fun _ => true) true 22 v d p) (ok : ∃ base, Value.okWide Try.prog W .any base 22 v) : ∃ l, Nds W v l ∧ ∀ x ∈ l, x.data.length ≤ maxLen ∧ x.data.length ∈ d.weights Try.prog 22 := by
  obtain ⟨base, ok⟩ := ok
  obtain ⟨a0, len, cap, rfl⟩ := okWide_slice Try.underlying22 ok
  obtain ⟨fuel, hf⟩ := k
  obtain ⟨v, l, e, h1, h2⟩ := nds_of_cell hf
  simp [Value.cells] at e
  subst e
  exact ⟨l, h1, h2⟩
/-- An inode that came in. -/
theorem nd_of_trod {H : Type} {enc : TypeId × Value → H} {W : World} {v : Value} {d : DataW H} {p : List MemPlace}
    (k : DataW.Trod enc Try.prog W 0 (fun _ => true) true 33 v d p) (ok : ∃ base, Value.okWide Try.prog W .any base 33 v) : ∃ x : Nd, v = .agg (ndC x) ∧ Ents W x.ev x.ents ∧ x.data.length ≤ maxLen ∧ x.data.length ∈ d.weights Try.prog 33 := by
  obtain ⟨base, ok⟩ := ok
  obtain ⟨cs, rfl, hsz⟩ := okWide_struct Try.underlying33 ok
  obtain ⟨fuel, hf⟩ := k
  obtain ⟨x, e, h1, h2⟩ := nd_of_cells hf
  refine ⟨x, ?_, h1, h2⟩
  have : cs.toList = (ndC x).toList := by simpa [Value.cells] using e
  rw [show cs = ndC x from Array.ext' this]
/-- A table that came in. -/
theorem fs_of_trod {H : Type} {enc : TypeId × Value → H} {W : World} {base : Nat} {v : Value} {d : DataW H} {p : List MemPlace}
    (k : DataW.Trod enc Try.prog W 0 (fun _ => true) true 24 v d p) (ok : Value.okWide Try.prog W .any base 24 v) : ∃ mi mb nx x l, v = .agg (fsC mi mb nx x) ∧ Nds W x l := by
  obtain ⟨v0, v1, v2, v3, y0, y1, y2, y3, n, rfl, rfl, rfl, h0, h1, h2, h3⟩ := Joins.open_agg4 Try.underlying24 (by kernel_rfl) (by kernel_rfl) ok k
  obtain ⟨z0, e0, _, _⟩ := DataW.trod_int Try.underlying3 h0
  obtain ⟨z1, e1, _, _⟩ := DataW.trod_int Try.underlying3 h1
  obtain ⟨z2, e2, _, _⟩ := DataW.trod_int Try.underlying3 h2
  obtain ⟨v, l, e3, h, _⟩ := nds_of_cell h3
  simp only [List.cons.injEq, and_true] at e0 e1 e2 e3
  subst e0 e1 e2 e3
  exact ⟨_, _, _, _, l, rfl, h⟩
end Go.Proofs.Ytpeghnhaekebdaa
