/- Texts that serve the walks, put together: plain lists, small laws, small walks. -/
import Derived.Lib.Bytealg
import Derived.WalkKit
import Derived.WalkSpells
import Derived.WalkLawsBesides
import Derived.Lib.Hide
import Derived.ShutString
import Derived.Lib.AppendStr
import Derived.Lib.SmallJoins
import Derived.RangeFuncBox
import Derived.RangeFuncNested
import Derived.RangeFuncBound
import Derived.RangeFuncCalls
import Derived.RangeFuncLeaves
import Derived.Shelf.Abstract
import Derived.Shelf.RegionOpen
import Derived.OwnWalkIn
import Derived.TacticsInMore
import Derived.LoopNIn
import Derived.LoopIn
import Derived.Maps.AppendAt
import Derived.Test.YtobepdmpacdakaaGreatChecked
import Derived.Deep.LoopGhost
import Derived.BigQuiet
import Derived.StillTailTactics
import Derived.Lib.Strings
import Derived.Shelf.Strings.Builder1
import Derived.Shelf.Small.Utf8
import Derived.Shelf.Small.Strs
import Derived.Shelf.Small.Wraps
import Derived.Shelf.Strings.BuilderF
import Derived.Shelf.Strings.BuilderK
import Derived.Shelf.LaysM
import Derived.Shelf.Strconv.Clone
import Derived.Shelf.Strings.Search1
import Derived.Shelf.Strings.Search2
import Derived.Shelf.Strings.Search3
import Derived.Shelf.Strings.Cut
import Derived.Shelf.Strings.Shaped
import Derived.Shelf.Strings.Prefix
import Derived.Shelf.Strings.Runes
import Derived.Shelf.Strings.IndexAny
import Derived.Shelf.Strings.AsciiSet
import Derived.Shelf.Strings.IndexAnyAll
import Derived.Shelf.Strings.BuilderCap
import Derived.Ground.Names2Prog
import Derived.Shelf.Slices.SearchI
import Derived.Test.YtobepdmpacdakaaGreatProg
import Derived.Laws.CopyOwn
import Derived.Laws.OwnMore
import Derived.Lib.Small
import Derived.OwnWalk
import Derived.Lib.AppendZerosOnto
import Derived.Lib.SliceRun
import Derived.Lib.Walk
import Derived.Below
set_option linter.unusedVariables false
set_option linter.unusedSimpArgs false
/- A name that may be. No program's function. -/
namespace Go.Proofs.YtobepdmpacdakaaGreat
def mayB (n : List UInt8) : Bool := !n.isEmpty && (n != [46]) && (n != [46, 46]) && decide (n.length ≤ 255) && !n.contains 47 && !n.contains 0
end Go.Proofs.YtobepdmpacdakaaGreat

/- Directories' entries as lists: right ones, looked for, put in and taken away. No program's function. -/
namespace Go.Proofs.YtobepdmpacdakaaGreat

/-- An entry: its name, its number. -/
abbrev Ent : Type := List UInt8 × Int
abbrev ltB (a b : List UInt8) : Bool := Op.bytesLess a b

theorem lt_irrefl : ∀ a : List UInt8, ltB a a = false
  | [] => by simp [ltB, Op.bytesLess]
  | c :: a => by
    have := lt_irrefl a
    simp only [ltB] at this
    simp [ltB, Op.bytesLess, this, UInt8.lt_irrefl]
theorem lt_trans : ∀ a b c : List UInt8, ltB a b = true → ltB b c = true → ltB a c = true
  | a, b, [], _, h => by cases b <;> simp [ltB, Op.bytesLess] at h
  | a, [], c :: z, h, _ => by cases a <;> simp [ltB, Op.bytesLess] at h
  | [], b :: y, c :: z, _, _ => by simp [ltB, Op.bytesLess]
  | a :: x, b :: y, c :: z, h1, h2 => by
    have ih := lt_trans x y z
    simp only [ltB, Op.bytesLess, Bool.or_eq_true, Bool.and_eq_true, decide_eq_true_eq, beq_iff_eq] at h1 h2 ih ⊢
    rcases h1 with h1 | ⟨rfl, h1⟩
    · rcases h2 with h2 | ⟨rfl, h2⟩
      · exact .inl (UInt8.lt_trans h1 h2)
      · exact .inl h1
    · rcases h2 with h2 | ⟨rfl, h2⟩
      · exact .inl h2
      · exact .inr ⟨rfl, ih h1 h2⟩
theorem lt_tri : ∀ a b : List UInt8, ltB a b = false → ltB b a = false → a = b
  | [], [], _, _ => rfl
  | [], _ :: _, h, _ => by simp [ltB, Op.bytesLess] at h
  | _ :: _, [], _, h => by simp [ltB, Op.bytesLess] at h
  | a :: x, b :: y, h1, h2 => by
    have ih := lt_tri x y
    simp only [ltB, Op.bytesLess, Bool.or_eq_false_iff, Bool.and_eq_false_iff, decide_eq_false_iff_not] at h1 h2 ih
    have e : a = b := by
      rcases Nat.lt_trichotomy a.toNat b.toNat with h | h | h
      · exact absurd (UInt8.lt_iff_toNat_lt.2 h) h1.1
      · exact UInt8.toNat_inj.1 h
      · exact absurd (UInt8.lt_iff_toNat_lt.2 h) h2.1
    subst e
    rw [ih (h1.2.resolve_left (by simp)) (h2.2.resolve_left (by simp))]
theorem lt_asym {a b : List UInt8} (h : ltB a b = true) : ltB b a = false := by
  rw [Bool.eq_false_iff]; intro h2
  have := lt_trans a b a h h2
  rw [lt_irrefl] at this; cases this
theorem lt_ne {a b : List UInt8} (h : ltB a b = true) : a ≠ b := by
  rintro rfl; rw [lt_irrefl] at h; cases h
theorem cmp_lt : ∀ a b : List UInt8, decide (Lib.compareBytes a b < 0) = ltB a b
  | [], [] => by simp [Lib.compareBytes, ltB, Op.bytesLess]
  | [], _ :: _ => by simp [Lib.compareBytes, ltB, Op.bytesLess]
  | _ :: _, [] => by simp [Lib.compareBytes, ltB, Op.bytesLess]
  | a :: x, b :: y => by
    have ih := cmp_lt x y
    by_cases h1 : a < b
    · simp [Lib.compareBytes, ltB, Op.bytesLess, h1]
    · by_cases h2 : b < a
      · have hne : a ≠ b := by rintro rfl; exact UInt8.lt_irrefl _ h2
        simp [Lib.compareBytes, ltB, Op.bytesLess, h1, h2, hne]
      · have e : a = b := by
          rcases Nat.lt_trichotomy a.toNat b.toNat with h | h | h
          · exact absurd (UInt8.lt_iff_toNat_lt.2 h) h1
          · exact UInt8.toNat_inj.1 h
          · exact absurd (UInt8.lt_iff_toNat_lt.2 h) h2
        subst e
        simp only [Lib.compareBytes, if_neg h1, ih]
        simp [ltB, Op.bytesLess, h1]
theorem cmp_eq0 : ∀ a b : List UInt8, (Lib.compareBytes a b == 0) = (a == b)
  | [], [] => by simp [Lib.compareBytes]
  | [], _ :: _ => by simp [Lib.compareBytes]
  | _ :: _, [] => by simp [Lib.compareBytes]
  | a :: x, b :: y => by
    have ih := cmp_eq0 x y
    by_cases h1 : a < b
    · have hne : a ≠ b := by rintro rfl; exact UInt8.lt_irrefl _ h1
      simp [Lib.compareBytes, h1, hne]
    · by_cases h2 : b < a
      · have hne : a ≠ b := by rintro rfl; exact UInt8.lt_irrefl _ h2
        simp [Lib.compareBytes, h1, h2, hne]
      · have e : a = b := by
          rcases Nat.lt_trichotomy a.toNat b.toNat with h | h | h
          · exact absurd (UInt8.lt_iff_toNat_lt.2 h) h1
          · exact UInt8.toNat_inj.1 h
          · exact absurd (UInt8.lt_iff_toNat_lt.2 h) h2
        subst e
        simp only [Lib.compareBytes, if_neg h1, ih]
        simp
theorem cmp_range (a b : List UInt8) : Lib.compareBytes a b = -1 ∨ Lib.compareBytes a b = 0 ∨ Lib.compareBytes a b = 1 := by
  induction a generalizing b with
  | nil => cases b <;> simp [Lib.compareBytes]
  | cons x a ih =>
    cases b with
    | nil => simp [Lib.compareBytes]
    | cons y b =>
      simp only [Lib.compareBytes]
      split
      · simp
      · split
        · simp
        · exact ih b

def goodE (e : Ent) : Bool := mayB e.1 && decide (0 < e.2)
abbrev sortP (l : List Ent) : Prop := l.Pairwise (fun a b => ltB a.1 b.1 = true)
def rightP (l : List Ent) : Prop := (∀ e ∈ l, goodE e = true) ∧ sortP l
def rightB (l : List Ent) : Bool := l.all goodE && decide (sortP l)
theorem rightB_iff (l : List Ent) : rightB l = true ↔ rightP l := by
  simp [rightB, rightP, List.all_eq_true]
theorem right_take {l : List Ent} (h : rightP l) (k : Nat) : rightP (l.take k) :=
  ⟨fun e he => h.1 e (List.mem_of_mem_take he), List.Pairwise.sublist (List.take_sublist k l) h.2⟩
theorem sort_snoc (l : List Ent) (e : Ent) : sortP (l ++ [e]) ↔ sortP l ∧ ∀ a ∈ l, ltB a.1 e.1 = true := by
  simp [sortP, List.pairwise_append]
theorem right_bad {l : List Ent} {k : Nat} (h : k < l.length) (hg : goodE l[k] = false) : rightB l = false := by
  rw [Bool.eq_false_iff, Ne, rightB_iff]
  intro hr
  rw [hr.1 _ (List.getElem_mem h)] at hg; cases hg
theorem right_unsorted {l : List Ent} {k : Nat} (h : k + 1 < l.length) (hg : ltB (l[k]'(by omega)).1 l[k + 1].1 = false) : rightB l = false := by
  rw [Bool.eq_false_iff, Ne, rightB_iff]
  intro hr
  rw [List.pairwise_iff_getElem.1 hr.2 k (k + 1) (by omega) h (by omega)] at hg; cases hg
theorem right_next {l : List Ent} {k : Nat} (h : k < l.length) (hr : rightP (l.take k)) (hg : goodE l[k] = true) (hs : ∀ j (hj : j < l.length), j + 1 = k → ltB l[j].1 l[k].1 = true) : rightP (l.take (k + 1)) := by
  rw [List.take_succ_eq_append_getElem h]
  refine ⟨fun e he => ?_, ?_⟩
  · rcases List.mem_append.1 he with he | he
    · exact hr.1 e he
    · rw [List.mem_singleton] at he; rw [he]; exact hg
  · rw [sort_snoc]
    refine ⟨hr.2, fun a ha => ?_⟩
    obtain ⟨i, hi, rfl⟩ := List.getElem_of_mem ha
    have hik : i < k := by simp at hi; omega
    rw [List.getElem_take]
    rcases Nat.lt_or_ge (i + 1) k with hi1 | hi1
    · have h0 := hs (k - 1) (by omega) (by omega)
      have h1 := List.pairwise_iff_getElem.1 hr.2 i (k - 1) (by simp; omega) (by simp; omega) (by omega)
      rw [List.getElem_take, List.getElem_take] at h1
      exact lt_trans _ _ _ h1 h0
    · exact hs i (by omega) (by omega)
theorem right_end {l : List Ent} (hr : rightP (l.take l.length)) : rightB l = true := by
  rw [List.take_length] at hr; exact (rightB_iff l).2 hr

def numB (l : List Ent) (n : List UInt8) : Int := ((l.find? (fun e => e.1 == n)).map (·.2)).getD 0
def hasB (l : List Ent) (n : List UInt8) : Bool := l.any (fun e => e.1 == n)
theorem find_at {l : List Ent} {n : List UInt8} {k : Nat} (h : k < l.length) (hb : (l.take k).any (fun e => e.1 == n) = false) (hk : l[k].1 = n) : numB l n = l[k].2 ∧ hasB l n = true := by
  have hl : l = l.take k ++ l[k] :: l.drop (k + 1) := by rw [← List.drop_eq_getElem_cons, List.take_append_drop]
  have hf : (l.take k).find? (fun e => e.1 == n) = none := by
    rw [List.find?_eq_none]; intro e he
    have := (List.any_eq_false.1 hb) e he
    exact this
  constructor
  · unfold numB
    have e1 : l.find? (fun e => e.1 == n) = some l[k] := by
      have e2 : (l.take k ++ l[k] :: l.drop (k + 1)).find? (fun e => e.1 == n) = some l[k] := by rw [List.find?_append, hf, List.find?_cons_of_pos (by simp [hk])]; rfl
      rwa [← hl] at e2
    rw [e1]; rfl
  · unfold hasB; rw [List.any_eq_true]; exact ⟨_, List.getElem_mem h, by simp [hk]⟩
theorem find_none {l : List Ent} {n : List UInt8} (hb : l.any (fun e => e.1 == n) = false) : numB l n = 0 ∧ hasB l n = false := by
  refine ⟨?_, hb⟩
  have hf : l.find? (fun e => e.1 == n) = none := by
    rw [List.find?_eq_none]; intro e he
    exact (List.any_eq_false.1 hb) e he
  unfold numB; rw [hf]; rfl
theorem any_next {l : List Ent} {n : List UInt8} {k : Nat} (h : k < l.length) (hb : (l.take k).any (fun e => e.1 == n) = false) (hk : l[k].1 ≠ n) : (l.take (k + 1)).any (fun e => e.1 == n) = false := by
  rw [List.take_succ_eq_append_getElem h, List.any_append, hb]; simp [hk]

def aheadB (l : List Ent) (n : List UInt8) : List Ent := l.filter (fun e => ltB e.1 n)
def behindB (l : List Ent) (n : List UInt8) : List Ent := l.filter (fun e => ltB n e.1)
def withB (l : List Ent) (n : List UInt8) (i : Int) : List Ent := aheadB l n ++ (n, i) :: behindB l n
def withoutB (l : List Ent) (n : List UInt8) : List Ent := aheadB l n ++ behindB l n

/-- Where the search comes to. -/
def SrchP (l : List Ent) (n : List UInt8) (lo : Nat) : Prop :=
  lo ≤ l.length ∧ l.take lo = aheadB l n ∧ (hasB l n = true → ∃ h : lo < l.length, l[lo].1 = n ∧ l.drop (lo + 1) = behindB l n) ∧ (hasB l n = false → l.drop lo = behindB l n)

theorem filter_all {l : List Ent} {p : Ent → Bool} (h : ∀ e ∈ l, p e = true) : l.filter p = l := List.filter_eq_self.2 h
theorem filter_none {l : List Ent} {p : Ent → Bool} (h : ∀ e ∈ l, p e = false) : l.filter p = [] := by
  rw [List.filter_eq_nil_iff]; intro e he; rw [h e he]; simp
theorem srch_end {l : List Ent} {n : List UInt8} {lo : Nat} (hs : sortP l) (hlo : lo ≤ l.length) (h1 : ∀ t (ht : t < l.length), t < lo → ltB l[t].1 n = true) (h2 : ∀ t (ht : t < l.length), lo ≤ t → ltB l[t].1 n = false) :
    SrchP l n lo ∧ hasB l n = (if h : lo < l.length then l[lo].1 == n else false) := by
  have hl : l = l.take lo ++ l.drop lo := (List.take_append_drop _ _).symm
  have ha : ∀ e ∈ l.take lo, ltB e.1 n = true := by
    intro e he
    obtain ⟨t, ht, rfl⟩ := List.getElem_of_mem he
    rw [List.getElem_take]; exact h1 t (by simp at ht; omega) (by simp at ht; omega)
  have hd : ∀ e ∈ l.drop lo, ltB e.1 n = false := by
    intro e he
    obtain ⟨t, ht, rfl⟩ := List.getElem_of_mem he
    rw [List.getElem_drop]; exact h2 (lo + t) (by simp at ht; omega) (by omega)
  have hah : aheadB l n = l.take lo := by
    unfold aheadB; conv => lhs; rw [hl]
    rw [List.filter_append, filter_all ha, filter_none hd, List.append_nil]
  have hbt : (l.take lo).filter (fun e => ltB n e.1) = [] := filter_none fun e he => lt_asym (ha e he)
  have hbe : behindB l n = (l.drop lo).filter (fun e => ltB n e.1) := by
    unfold behindB; conv => lhs; rw [hl]
    rw [List.filter_append, hbt, List.nil_append]
  have hat : (l.take lo).any (fun e => e.1 == n) = false := by
    rw [List.any_eq_false]; intro e he; simpa using lt_ne (ha e he)
  have hhas : hasB l n = (l.drop lo).any (fun e => e.1 == n) := by
    unfold hasB; conv => lhs; rw [hl]
    rw [List.any_append, hat, Bool.false_or]
  by_cases hlt : lo < l.length
  · have hdr : l.drop lo = l[lo] :: l.drop (lo + 1) := List.drop_eq_getElem_cons hlt
    have hsd : sortP (l.drop lo) := List.Pairwise.sublist (List.drop_sublist _ _) hs
    rw [hdr] at hsd
    have hgt := (List.pairwise_cons.1 hsd).1
    have hlo2 := h2 lo hlt (Nat.le_refl _)
    cases hc : ltB n l[lo].1
    · have e : l[lo].1 = n := lt_tri _ _ hlo2 hc
      have hT : hasB l n = true := by rw [hhas, hdr, List.any_cons]; simp [e]
      refine ⟨⟨hlo, hah.symm, fun _ => ⟨hlt, e, ?_⟩, fun h => by rw [hT] at h; cases h⟩, by rw [hT, dif_pos hlt]; simp [e]⟩
      rw [hbe, hdr, List.filter_cons_of_neg (by rw [hc]; simp), filter_all fun x hx => by rw [← e]; exact hgt x hx]
    · have hne : ∀ e ∈ l.drop lo, ltB n e.1 = true := by
        intro e he
        rw [hdr, List.mem_cons] at he
        rcases he with rfl | he
        · exact hc
        · exact lt_trans _ _ _ hc (hgt e he)
      have hF : hasB l n = false := by rw [hhas, List.any_eq_false]; intro e he; simpa using (lt_ne (hne e he)).symm
      refine ⟨⟨hlo, hah.symm, fun h => (by rw [hF] at h; cases h), fun _ => by rw [hbe, filter_all hne]⟩, ?_⟩
      rw [hF, dif_pos hlt]; simpa using (lt_ne hc).symm
  · have hd0 : l.drop lo = [] := List.drop_eq_nil_of_le (by omega)
    have hF : hasB l n = false := by rw [hhas, hd0]; rfl
    refine ⟨⟨hlo, hah.symm, fun h => (by rw [hF] at h; cases h), fun _ => by rw [hbe, hd0]; rfl⟩, ?_⟩
    rw [hF, dif_neg hlt]
theorem sort_upto {l : List Ent} {n : List UInt8} {a b : Nat} (hs : sortP l) (hb : b < l.length) (hab : a ≤ b) (h : ltB l[b].1 n = true) : ltB (l[a]'(by omega)).1 n = true := by
  rcases Nat.lt_or_ge a b with h1 | h1
  · exact lt_trans _ _ _ (List.pairwise_iff_getElem.1 hs a b (by omega) hb h1) h
  · obtain rfl : a = b := by omega
    exact h

theorem find_srch {l : List Ent} {n : List UInt8} {lo : Nat} (h : SrchP l n lo) (hh : hasB l n = true) : ∃ hk : lo < l.length, numB l n = l[lo].2 := by
  obtain ⟨_, ht, hy, _⟩ := h
  obtain ⟨hk, e, _⟩ := hy hh
  refine ⟨hk, (find_at hk ?_ e).1⟩
  rw [ht, List.any_eq_false]
  intro x hx
  simpa using lt_ne (List.mem_filter.1 hx).2

/-- The document's way. -/
theorem without_eq {l : List Ent} (n : List UInt8) (hs : sortP l) : l.filter (fun e => e.1 != n) = withoutB l n := by
  induction l with
  | nil => rfl
  | cons e t ih =>
    obtain ⟨h1, h2⟩ := List.pairwise_cons.1 hs
    have ih := ih h2
    unfold withoutB aheadB behindB at *
    cases hc : ltB e.1 n
    · have ha : t.filter (fun x => ltB x.1 n) = [] := filter_none fun x hx => by
        rw [Bool.eq_false_iff]; intro hx2
        rw [lt_trans _ _ _ (h1 x hx) hx2] at hc; cases hc
      rw [ha] at ih
      rw [List.filter_cons_of_neg (p := fun x : Ent => ltB x.1 n) (by simp [hc]), ha]
      cases hd : ltB n e.1
      · have he : e.1 = n := lt_tri _ _ hc hd
        rw [List.filter_cons_of_neg (p := fun x : Ent => x.1 != n) (by simp [he]), List.filter_cons_of_neg (p := fun x : Ent => ltB n x.1) (by simp [hd]), ih]
      · rw [List.filter_cons_of_pos (p := fun x : Ent => x.1 != n) (by simpa using (lt_ne hd).symm), List.filter_cons_of_pos (p := fun x : Ent => ltB n x.1) hd, ih]; rfl
    · rw [List.filter_cons_of_pos (p := fun x : Ent => x.1 != n) (by simpa using lt_ne hc), List.filter_cons_of_pos (p := fun x : Ent => ltB x.1 n) hc, List.filter_cons_of_neg (p := fun x : Ent => ltB n x.1) (by simp [lt_asym hc]), ih]; rfl
def insB (n : List UInt8) (i : Int) : List Ent → List Ent
  | [] => [(n, i)]
  | e :: r => if ltB n e.1 = true then (n, i) :: e :: r else e :: insB n i r
theorem ins_eq {l : List Ent} (n : List UInt8) (i : Int) (hs : sortP l) : insB n i (withoutB l n) = withB l n i := by
  have hb : insB n i (behindB l n) = (n, i) :: behindB l n := by
    cases h : behindB l n with
    | nil => rfl
    | cons e r =>
      have : e ∈ behindB l n := by rw [h]; simp
      rw [insB, if_pos (List.mem_filter.1 this).2]
  unfold withoutB withB
  have ha : ∀ x ∈ aheadB l n, ltB n x.1 = false := fun x hx => lt_asym (List.mem_filter.1 hx).2
  generalize aheadB l n = A at ha
  induction A with
  | nil => simpa using hb
  | cons x A ih =>
    rw [List.cons_append, insB, if_neg (by rw [ha x (by simp)]; simp), ih fun y hy => ha y (by simp [hy])]; rfl

theorem with_sort {l : List Ent} (n : List UInt8) (i : Int) (hs : sortP l) : sortP (withB l n i) := by
  unfold withB sortP
  rw [List.pairwise_append, List.pairwise_cons]
  refine ⟨List.Pairwise.sublist List.filter_sublist hs, ⟨fun x hx => (List.mem_filter.1 hx).2, List.Pairwise.sublist List.filter_sublist hs⟩, fun a ha b hb => ?_⟩
  have h1 := (List.mem_filter.1 ha).2
  rcases List.mem_cons.1 hb with rfl | hb
  · exact h1
  · exact lt_trans _ _ _ h1 (List.mem_filter.1 hb).2
theorem without_sort {l : List Ent} (n : List UInt8) (hs : sortP l) : sortP (withoutB l n) := by
  unfold withoutB sortP
  rw [List.pairwise_append]
  refine ⟨List.Pairwise.sublist List.filter_sublist hs, List.Pairwise.sublist List.filter_sublist hs, fun a ha b hb => ?_⟩
  exact lt_trans _ _ _ (List.mem_filter.1 ha).2 (List.mem_filter.1 hb).2
theorem with_right {l : List Ent} {n : List UInt8} {i : Int} (hr : rightP l) (hg : goodE (n, i) = true) : rightP (withB l n i) := by
  refine ⟨fun e he => ?_, with_sort n i hr.2⟩
  unfold withB at he
  rcases List.mem_append.1 he with he | he
  · exact hr.1 e (List.mem_filter.1 he).1
  · rcases List.mem_cons.1 he with rfl | he
    · exact hg
    · exact hr.1 e (List.mem_filter.1 he).1
theorem without_right {l : List Ent} (n : List UInt8) (hr : rightP l) : rightP (withoutB l n) := by
  refine ⟨fun e he => ?_, without_sort n hr.2⟩
  unfold withoutB at he
  rcases List.mem_append.1 he with he | he <;> exact hr.1 e (List.mem_filter.1 he).1
theorem find_filter (l : List Ent) (p : Ent → Bool) (n : List UInt8) (hp : ∀ e : Ent, e.1 = n → p e = true) : (l.filter p).find? (fun e => e.1 == n) = l.find? (fun e => e.1 == n) := by
  induction l with
  | nil => rfl
  | cons e t ih =>
    by_cases he : e.1 = n
    · rw [List.filter_cons_of_pos (hp e he), List.find?_cons_of_pos (by simp [he]), List.find?_cons_of_pos (by simp [he])]
    · rw [List.find?_cons_of_neg (by simpa using he)]
      cases hpe : p e
      · rw [List.filter_cons_of_neg (by simp [hpe]), ih]
      · rw [List.filter_cons_of_pos hpe, List.find?_cons_of_neg (by simpa using he), ih]
theorem has_find (l : List Ent) (n : List UInt8) : hasB l n = (l.find? (fun e => e.1 == n)).isSome := by
  unfold hasB; rw [Bool.eq_iff_iff, List.any_eq_true, List.find?_isSome]
theorem without_find {l : List Ent} (m n : List UInt8) (hs : sortP l) : (withoutB l m).find? (fun e => e.1 == n) = if m = n then none else l.find? (fun e => e.1 == n) := by
  rw [← without_eq m hs]
  split
  · rename_i h; subst h
    rw [List.find?_eq_none]; intro e he
    have := (List.mem_filter.1 he).2
    simpa using this
  · rename_i h
    exact find_filter l _ n fun e he => by simpa [he] using fun e => h e.symm
theorem with_find {l : List Ent} (m n : List UInt8) (i : Int) (hs : sortP l) : (withB l m i).find? (fun e => e.1 == n) = if m = n then some (m, i) else l.find? (fun e => e.1 == n) := by
  have ha : ∀ e ∈ aheadB l m, e.1 ≠ m := fun e he => lt_ne (List.mem_filter.1 he).2
  have key : (withB l m i).find? (fun e => e.1 == n) = if m = n then some (m, i) else (withoutB l m).find? (fun e => e.1 == n) := by
    unfold withB withoutB
    rw [List.find?_append, List.find?_append]
    split
    · rename_i h; subst h
      rw [List.find?_eq_none.2 fun e he => by simpa using ha e he, List.find?_cons_of_pos (by simp)]; rfl
    · rename_i h
      rw [List.find?_cons_of_neg (by simpa using h)]
  rw [key, without_find m n hs]
  split
  · rfl
  · rfl
theorem with_num {l : List Ent} (m n : List UInt8) (i : Int) (hs : sortP l) : numB (withB l m i) n = if m = n then i else numB l n := by
  unfold numB; rw [with_find m n i hs]; split <;> rfl
theorem with_has {l : List Ent} (m n : List UInt8) (i : Int) (hs : sortP l) : hasB (withB l m i) n = if m = n then true else hasB l n := by
  rw [has_find, with_find m n i hs]; split
  · rfl
  · rw [has_find]
theorem without_num {l : List Ent} (m n : List UInt8) (hs : sortP l) : numB (withoutB l m) n = if m = n then 0 else numB l n := by
  unfold numB; rw [without_find m n hs]; split <;> rfl
theorem without_has {l : List Ent} (m n : List UInt8) (hs : sortP l) : hasB (withoutB l m) n = if m = n then false else hasB l n := by
  rw [has_find, without_find m n hs]; split
  · rfl
  · rw [has_find]
theorem parts_len (l : List Ent) (n : List UInt8) : (aheadB l n).length + (behindB l n).length ≤ l.length := by
  unfold aheadB behindB
  induction l with
  | nil => simp
  | cons e t ih =>
    cases h : ltB e.1 n
    · rw [List.filter_cons_of_neg (p := fun x : Ent => ltB x.1 n) (by simp [h])]
      have := List.length_filter_le (fun x : Ent => ltB n x.1) [e]
      simp only [List.filter_cons] at *
      split <;> simp at * <;> omega
    · rw [List.filter_cons_of_pos (p := fun x : Ent => ltB x.1 n) h, List.filter_cons_of_neg (p := fun x : Ent => ltB n x.1) (by simp [lt_asym h])]
      simp; omega
theorem without_len (l : List Ent) (n : List UInt8) : (withoutB l n).length ≤ l.length := by
  have := parts_len l n; unfold withoutB; rw [List.length_append]; omega
theorem with_len (l : List Ent) (n : List UInt8) (i : Int) : (withB l n i).length ≤ l.length + 1 := by
  have := parts_len l n; unfold withB; rw [List.length_append, List.length_cons]; omega
def shortP (b : Nat) (l : List Ent) : Prop := ∀ e ∈ l, e.1.length ≤ b
theorem without_short {l : List Ent} {b : Nat} (n : List UInt8) (h : shortP b l) : shortP b (withoutB l n) := by
  intro e he
  unfold withoutB at he
  rcases List.mem_append.1 he with he | he <;> exact h e (List.mem_filter.1 he).1
theorem with_short {l : List Ent} {b : Nat} {n : List UInt8} (i : Int) (h : shortP b l) (hn : n.length ≤ b) : shortP b (withB l n i) := by
  intro e he
  unfold withB at he
  rcases List.mem_append.1 he with he | he
  · exact h e (List.mem_filter.1 he).1
  · rcases List.mem_cons.1 he with rfl | he
    · exact hn
    · exact h e (List.mem_filter.1 he).1
theorem may_len {n : List UInt8} (h : mayB n = true) : n.length ≤ 255 := by
  simp [mayB] at h; exact h.1.1.2
theorem right_short {l : List Ent} (h : rightP l) : shortP 255 l := by
  intro e he
  have := h.1 e he
  rw [goodE, Bool.and_eq_true] at this
  exact may_len this.1

def fewE (l : List Ent) : Bool := (l.take 100).all (fun s => decide (s.1.length ≤ 300)) && decide (l.length ≤ 50)
theorem fewE_no {l : List Ent} {k : Nat} (h : k < l.length) (h1 : k < 100) (h2 : 300 < l[k].1.length) : fewE l = false := by
  rw [Bool.eq_false_iff]
  intro hb
  simp only [fewE, Bool.and_eq_true, List.all_eq_true] at hb
  have hk : k < (l.take 100).length := by simp; omega
  have := hb.1 (l.take 100)[k] (List.getElem_mem hk)
  simp at this
  omega
theorem fewE_yes {l : List Ent} {k : Nat} (h : ∀ j (hj : j < l.length), j < k → l[j].1.length ≤ 300) (h2 : ¬ (k < l.length ∧ k < 100)) : fewE l = decide (l.length ≤ 50) := by
  unfold fewE
  have : (l.take 100).all (fun s => decide (s.1.length ≤ 300)) = true := by
    rw [List.all_eq_true]
    intro s hs
    obtain ⟨j, hj, rfl⟩ := List.getElem_of_mem hs
    have hj2 : j < l.length ∧ j < 100 := by simp at hj; omega
    have := h j hj2.1 (by omega)
    simpa using this
  rw [this]; simp
theorem fewE_small {l : List Ent} (h : fewE l = true) : l.length ≤ 50 ∧ shortP 300 l := by
  simp only [fewE, Bool.and_eq_true, List.all_eq_true, decide_eq_true_eq] at h
  refine ⟨h.2, fun x hx => ?_⟩
  rw [List.take_of_length_le (by omega)] at h
  exact h.1 x hx
end Go.Proofs.YtobepdmpacdakaaGreat

/- Tables' inodes as lists: rising ones, looked for, put in and dropped. No program's function. -/
namespace Go.Proofs.YtobepdmpacdakaaGreat

/-- An inode: its fields, its entries' slice as it lies in its cell, and what that slice reads as. -/
structure Nd where
  ino : Int
  kind : Int
  links : Int
  data : List UInt8
  parent : Int
  ev : Value
  ents : List Ent

abbrev Key : Type := Int × Int × Int × List UInt8 × Int × List Ent
instance keyDec1 : DecidableEq (List Ent) := inferInstance
instance keyDec2 : DecidableEq (Int × List Ent) := instDecidableEqProd
instance keyDec3 : DecidableEq (List UInt8 × Int × List Ent) := instDecidableEqProd
instance keyDec4 : DecidableEq (Int × List UInt8 × Int × List Ent) := instDecidableEqProd
instance keyDec5 : DecidableEq (Int × Int × List UInt8 × Int × List Ent) := instDecidableEqProd
instance keyDec : DecidableEq Key := instDecidableEqProd
def Nd.key (x : Nd) : Key := (x.ino, x.kind, x.links, x.data, x.parent, x.ents)
def oneB (a b : Nd) : Bool := decide (a.key = b.key)
def onesB (a b : List Nd) : Bool := decide (a.map Nd.key = b.map Nd.key)
theorem oneB_refl (a : Nd) : oneB a a = true := decide_eq_true rfl
theorem onesB_refl (a : List Nd) : onesB a a = true := decide_eq_true rfl
theorem oneB_iff (a b : Nd) : oneB a b = true ↔ a.key = b.key := by simp [oneB]
theorem key_ext (a b : Nd) (h1 : a.ino = b.ino) (h2 : a.kind = b.kind) (h3 : a.links = b.links) (h4 : a.data = b.data) (h5 : a.parent = b.parent) (h6 : a.ents = b.ents) : oneB a b = true := by
  rw [oneB_iff]; simp [Nd.key, *]
theorem oneB_no1 {a b : Nd} (h : (a.ino == b.ino) = false) : oneB a b = false := by
  rw [Bool.eq_false_iff]; intro e; rw [oneB_iff] at e; simp [Nd.key] at e; simp at h; exact h e.1
theorem oneB_no2 {a b : Nd} (h : (a.kind == b.kind) = false) : oneB a b = false := by
  rw [Bool.eq_false_iff]; intro e; rw [oneB_iff] at e; simp [Nd.key] at e; simp at h; exact h e.2.1
theorem oneB_no3 {a b : Nd} (h : (a.links == b.links) = false) : oneB a b = false := by
  rw [Bool.eq_false_iff]; intro e; rw [oneB_iff] at e; simp [Nd.key] at e; simp at h; exact h e.2.2.1
theorem oneB_no4 {a b : Nd} (h : (a.data == b.data) = false) : oneB a b = false := by
  rw [Bool.eq_false_iff]; intro e; rw [oneB_iff] at e; simp [Nd.key] at e; simp at h; exact h e.2.2.2.1
theorem oneB_no5 {a b : Nd} (h : (a.parent == b.parent) = false) : oneB a b = false := by
  rw [Bool.eq_false_iff]; intro e; rw [oneB_iff] at e; simp [Nd.key] at e; simp at h; exact h e.2.2.2.2.1
theorem oneB_ents {a b : Nd} (h1 : (a.ino == b.ino) = true) (h2 : (a.kind == b.kind) = true) (h3 : (a.links == b.links) = true) (h4 : (a.data == b.data) = true) (h5 : (a.parent == b.parent) = true) : oneB a b = decide (a.ents = b.ents) := by
  simp only [beq_iff_eq] at h1 h2 h3 h4 h5
  simp [oneB, Nd.key, *]
theorem onesB_len {a b : List Nd} (h : a.length ≠ b.length) : onesB a b = false := by
  rw [Bool.eq_false_iff]; intro e
  simp only [onesB, decide_eq_true_eq] at e
  have := congrArg List.length e
  simp at this; exact h this
theorem onesB_no {a b : List Nd} {k : Nat} (ha : k < a.length) (hb : k < b.length) (h : oneB a[k] b[k] = false) : onesB a b = false := by
  rw [Bool.eq_false_iff]; intro e
  simp only [onesB, decide_eq_true_eq] at e
  have h1 : (a.map Nd.key)[k]? = (b.map Nd.key)[k]? := by rw [e]
  simp [ha, hb] at h1
  simp [oneB, h1] at h
theorem onesB_next {a b : List Nd} {k : Nat} (ha : k < a.length) (hb : k < b.length) (ht : (a.take k).map Nd.key = (b.take k).map Nd.key) (h : oneB a[k] b[k] = true) : (a.take (k + 1)).map Nd.key = (b.take (k + 1)).map Nd.key := by
  rw [List.take_succ_eq_append_getElem ha, List.take_succ_eq_append_getElem hb, List.map_append, List.map_append, ht]
  rw [oneB_iff] at h
  simp [h]
theorem onesB_end {a b : List Nd} (hl : a.length = b.length) (ht : (a.take a.length).map Nd.key = (b.take a.length).map Nd.key) : onesB a b = true := by
  rw [List.take_length, hl, List.take_length] at ht
  exact decide_eq_true ht

abbrev riseP (l : List Nd) : Prop := l.Pairwise (fun a b => a.ino < b.ino)
def riseN (l : List Nd) : Bool := decide (riseP l)
theorem riseN_iff (l : List Nd) : riseN l = true ↔ riseP l := by simp [riseN]
theorem rise_next {l : List Nd} {k : Nat} (h : k < l.length) (hr : riseP (l.take k)) (hs : ∀ j (hj : j < l.length), j + 1 = k → l[j].ino < l[k].ino) : riseP (l.take (k + 1)) := by
  rw [List.take_succ_eq_append_getElem h]
  refine List.pairwise_append.2 ⟨hr, List.pairwise_singleton _ _, fun a ha b hb => ?_⟩
  obtain rfl := List.mem_singleton.1 hb
  obtain ⟨i, hi, rfl⟩ := List.getElem_of_mem ha
  have hik : i < k := by simp at hi; omega
  rw [List.getElem_take]
  rcases Nat.lt_or_ge (i + 1) k with hi1 | hi1
  · have h0 := hs (k - 1) (by omega) (by omega)
    have h1 := List.pairwise_iff_getElem.1 hr i (k - 1) (by simp; omega) (by simp; omega) (by omega)
    rw [List.getElem_take, List.getElem_take] at h1
    omega
  · exact hs i (by omega) (by omega)
theorem rise_no {l : List Nd} {k : Nat} (h : k + 1 < l.length) (hg : ¬ (l[k]'(by omega)).ino < l[k + 1].ino) : riseN l = false := by
  rw [Bool.eq_false_iff, Ne, riseN_iff]
  intro hr
  exact hg (List.pairwise_iff_getElem.1 hr k (k + 1) (by omega) h (by omega))
theorem rise_end {l : List Nd} (h : riseP (l.take l.length)) : riseN l = true := by
  rw [List.take_length] at h; exact (riseN_iff l).2 h

def aheadN (l : List Nd) (i : Int) : List Nd := l.filter (fun e => decide (e.ino < i))
def behindN (l : List Nd) (i : Int) : List Nd := l.filter (fun e => decide (i < e.ino))
def setN (l : List Nd) (x : Nd) : List Nd := aheadN l x.ino ++ x :: behindN l x.ino
def dropN (l : List Nd) (i : Int) : List Nd := aheadN l i ++ behindN l i
def hasN (l : List Nd) (i : Int) : Bool := l.any (fun e => e.ino == i)
def zeroN : Nd := ⟨0, 0, 0, [], 0, .slice none 0 0, []⟩
def getN (l : List Nd) (i : Int) : Nd := (l.find? (fun e => e.ino == i)).getD zeroN

theorem ahead_le (l : List Nd) (i : Int) : (aheadN l i).length ≤ l.length := List.length_filter_le _ _
theorem dropN_len (l : List Nd) (i : Int) : (dropN l i).length ≤ l.length := by
  unfold dropN aheadN behindN
  induction l with
  | nil => simp
  | cons e r ih =>
    simp only [List.filter_cons, List.length_append] at ih ⊢
    split <;> split <;> simp at * <;> omega
theorem setN_len (l : List Nd) (x : Nd) : (setN l x).length ≤ l.length + 1 := by
  have := dropN_len l x.ino
  simp [dropN, setN] at this ⊢; omega
theorem mem_setN {l : List Nd} {x e : Nd} (h : e ∈ setN l x) : e = x ∨ e ∈ l := by
  simp only [setN, aheadN, behindN, List.mem_append, List.mem_cons, List.mem_filter] at h
  rcases h with h | h | h
  · exact .inr h.1
  · exact .inl h
  · exact .inr h.1
theorem mem_dropN {l : List Nd} {i : Int} {e : Nd} (h : e ∈ dropN l i) : e ∈ l := by
  simp only [dropN, aheadN, behindN, List.mem_append, List.mem_filter] at h
  rcases h with h | h <;> exact h.1

/-- Where the search comes to. -/
def SrchN (l : List Nd) (i : Int) (lo : Nat) : Prop :=
  lo ≤ l.length ∧ l.take lo = aheadN l i ∧ (hasN l i = true → ∃ h : lo < l.length, l[lo].ino = i ∧ l.drop (lo + 1) = behindN l i) ∧ (hasN l i = false → l.drop lo = behindN l i)

theorem filtN_all {l : List Nd} {p : Nd → Bool} (h : ∀ e ∈ l, p e = true) : l.filter p = l := List.filter_eq_self.2 h
theorem filtN_none {l : List Nd} {p : Nd → Bool} (h : ∀ e ∈ l, p e = false) : l.filter p = [] := by
  rw [List.filter_eq_nil_iff]; intro e he; rw [h e he]; simp
theorem srchN_end {l : List Nd} {n : Int} {lo : Nat} (hs : riseP l) (hlo : lo ≤ l.length) (h1 : ∀ t (ht : t < l.length), t < lo → l[t].ino < n) (h2 : ∀ t (ht : t < l.length), lo ≤ t → n ≤ l[t].ino) :
    SrchN l n lo ∧ hasN l n = (if h : lo < l.length then l[lo].ino == n else false) := by
  have hl : l = l.take lo ++ l.drop lo := (List.take_append_drop _ _).symm
  have ha : ∀ e ∈ l.take lo, e.ino < n := by
    intro e he
    obtain ⟨t, ht, rfl⟩ := List.getElem_of_mem he
    rw [List.getElem_take]; exact h1 t (by simp at ht; omega) (by simp at ht; omega)
  have hd : ∀ e ∈ l.drop lo, n ≤ e.ino := by
    intro e he
    obtain ⟨t, ht, rfl⟩ := List.getElem_of_mem he
    rw [List.getElem_drop]; exact h2 (lo + t) (by simp at ht; omega) (by omega)
  have hah : aheadN l n = l.take lo := by
    unfold aheadN; conv => lhs; rw [hl]
    rw [List.filter_append, filtN_all fun e he => decide_eq_true (ha e he), filtN_none fun e he => decide_eq_false (by have := hd e he; omega), List.append_nil]
  have hbt : (l.take lo).filter (fun e => decide (n < e.ino)) = [] := filtN_none fun e he => decide_eq_false (by have := ha e he; omega)
  have hbe : behindN l n = (l.drop lo).filter (fun e => decide (n < e.ino)) := by
    unfold behindN; conv => lhs; rw [hl]
    rw [List.filter_append, hbt, List.nil_append]
  have hat : (l.take lo).any (fun e => e.ino == n) = false := by
    rw [List.any_eq_false]; intro e he; have := ha e he; simp; omega
  have hhas : hasN l n = (l.drop lo).any (fun e => e.ino == n) := by
    unfold hasN; conv => lhs; rw [hl]
    rw [List.any_append, hat, Bool.false_or]
  by_cases hlt : lo < l.length
  · have hdr : l.drop lo = l[lo] :: l.drop (lo + 1) := List.drop_eq_getElem_cons hlt
    have hsd : riseP (l.drop lo) := List.Pairwise.sublist (List.drop_sublist _ _) hs
    rw [hdr] at hsd
    have hgt := (List.pairwise_cons.1 hsd).1
    have hlo2 := h2 lo hlt (Nat.le_refl _)
    by_cases e : l[lo].ino = n
    · have hT : hasN l n = true := by rw [hhas, hdr, List.any_cons]; simp [e]
      refine ⟨⟨hlo, hah.symm, fun _ => ⟨hlt, e, ?_⟩, fun h => by rw [hT] at h; cases h⟩, by rw [hT, dif_pos hlt]; simp [e]⟩
      rw [hbe, hdr, List.filter_cons_of_neg (by simp; omega), filtN_all fun x hx => decide_eq_true (by have := hgt x hx; omega)]
    · have hne : ∀ e ∈ l.drop lo, n < e.ino := by
        intro e he
        rw [hdr, List.mem_cons] at he
        rcases he with rfl | he
        · omega
        · have := hgt e he; omega
      have hF : hasN l n = false := by rw [hhas, List.any_eq_false]; intro e he; have := hne e he; simp; omega
      refine ⟨⟨hlo, hah.symm, fun h => (by rw [hF] at h; cases h), fun _ => by rw [hbe, filtN_all fun e he => decide_eq_true (hne e he)]⟩, ?_⟩
      rw [hF, dif_pos hlt]; simp [e]
  · have hd0 : l.drop lo = [] := List.drop_eq_nil_of_le (by omega)
    have hF : hasN l n = false := by rw [hhas, hd0]; rfl
    refine ⟨⟨hlo, hah.symm, fun h => (by rw [hF] at h; cases h), fun _ => by rw [hbe, hd0]; rfl⟩, ?_⟩
    rw [hF, dif_neg hlt]
theorem rise_upto {l : List Nd} {a b : Nat} (hs : riseP l) (hb : b < l.length) (hab : a ≤ b) : (l[a]'(by omega)).ino ≤ l[b].ino := by
  rcases Nat.lt_or_ge a b with h1 | h1
  · exact Int.le_of_lt (List.pairwise_iff_getElem.1 hs a b (by omega) hb h1)
  · obtain rfl : a = b := by omega
    exact Int.le_refl _

theorem getN_at {l : List Nd} {n : Int} {k : Nat} (h : k < l.length) (hb : (l.take k).any (fun e => e.ino == n) = false) (hk : l[k].ino = n) : getN l n = l[k] ∧ hasN l n = true := by
  have hl : l = l.take k ++ l[k] :: l.drop (k + 1) := by rw [← List.drop_eq_getElem_cons, List.take_append_drop]
  have hf : (l.take k).find? (fun e => e.ino == n) = none := by
    rw [List.find?_eq_none]; intro e he
    exact (List.any_eq_false.1 hb) e he
  constructor
  · unfold getN
    have e1 : l.find? (fun e => e.ino == n) = some l[k] := by
      have e2 : (l.take k ++ l[k] :: l.drop (k + 1)).find? (fun e => e.ino == n) = some l[k] := by rw [List.find?_append, hf, List.find?_cons_of_pos (by simp [hk])]; rfl
      rwa [← hl] at e2
    rw [e1]; rfl
  · unfold hasN; rw [List.any_eq_true]; exact ⟨_, List.getElem_mem h, by simp [hk]⟩
theorem getN_none {l : List Nd} {n : Int} (hb : hasN l n = false) : getN l n = zeroN := by
  have hf : l.find? (fun e => e.ino == n) = none := by
    rw [List.find?_eq_none]; intro e he
    exact (List.any_eq_false.1 hb) e he
  unfold getN; rw [hf]; rfl
theorem anyN_next {l : List Nd} {n : Int} {k : Nat} (h : k < l.length) (hb : (l.take k).any (fun e => e.ino == n) = false) (hk : (l[k].ino == n) = false) : (l.take (k + 1)).any (fun e => e.ino == n) = false := by
  rw [List.take_succ_eq_append_getElem h, List.any_append, hb]; simp [hk]
theorem getN_srch {l : List Nd} {n : Int} {lo : Nat} (h : SrchN l n lo) (hh : hasN l n = true) : ∃ hk : lo < l.length, getN l n = l[lo] := by
  obtain ⟨_, ht, hy, _⟩ := h
  obtain ⟨hk, e, _⟩ := hy hh
  refine ⟨hk, (getN_at hk ?_ e).1⟩
  rw [ht, List.any_eq_false]
  intro x hx
  have := of_decide_eq_true (List.mem_filter.1 hx).2
  simp; omega

/-- The document's ways. -/
theorem dropN_eq (l : List Nd) (n : Int) (hs : riseP l) : l.filter (fun e => e.ino != n) = dropN l n := by
  induction l with
  | nil => rfl
  | cons e t ih =>
    obtain ⟨h1, h2⟩ := List.pairwise_cons.1 hs
    have ih := ih h2
    unfold dropN aheadN behindN at *
    by_cases hc : e.ino < n
    · rw [List.filter_cons_of_pos (p := fun x : Nd => x.ino != n) (by simp; omega), List.filter_cons_of_pos (p := fun x : Nd => decide (x.ino < n)) (by simpa using hc), List.filter_cons_of_neg (p := fun x : Nd => decide (n < x.ino)) (by simp; omega), ih]; rfl
    · have ha : t.filter (fun x => decide (x.ino < n)) = [] := filtN_none fun x hx => decide_eq_false (by have := h1 x hx; omega)
      rw [ha] at ih
      rw [List.filter_cons_of_neg (p := fun x : Nd => decide (x.ino < n)) (by simpa using hc), ha]
      by_cases he : e.ino = n
      · rw [List.filter_cons_of_neg (p := fun x : Nd => x.ino != n) (by simp [he]), List.filter_cons_of_neg (p := fun x : Nd => decide (n < x.ino)) (by simp [he]), ih]
      · rw [List.filter_cons_of_pos (p := fun x : Nd => x.ino != n) (by simpa using he), List.filter_cons_of_pos (p := fun x : Nd => decide (n < x.ino)) (by simp; omega), ih]; rfl
theorem drop_rise {l : List Nd} (n : Int) (hs : riseP l) : riseP (dropN l n) := by
  rw [← dropN_eq l n hs]; exact hs.filter _
theorem set_rise {l : List Nd} (x : Nd) (hs : riseP l) : riseP (setN l x) := by
  unfold setN aheadN behindN
  refine List.pairwise_append.2 ⟨hs.filter _, List.pairwise_cons.2 ⟨fun b hb => of_decide_eq_true (List.mem_filter.1 hb).2, hs.filter _⟩, fun a ha b hb => ?_⟩
  have h1 := of_decide_eq_true (List.mem_filter.1 ha).2
  rcases List.mem_cons.1 hb with rfl | hb
  · exact h1
  · have h2 := of_decide_eq_true (List.mem_filter.1 hb).2; omega

/-- The rounds of the document's Set, over what is left of the table: what has come of the first k, and whether x was put. -/
def insN (x : Nd) : List Nd → List Nd × Bool
  | [] => ([], false)
  | e :: r => if x.ino < e.ino then (x :: e :: r, true) else (e :: (insN x r).1, (insN x r).2)
theorem insN_snoc (x : Nd) (l : List Nd) (e : Nd) : insN x (l ++ [e]) = if (insN x l).2 = true then ((insN x l).1 ++ [e], true) else if x.ino < e.ino then ((insN x l).1 ++ [x, e], true) else ((insN x l).1 ++ [e], false) := by
  induction l with
  | nil => simp [insN]
  | cons a r ih =>
    simp only [List.cons_append, insN]
    by_cases h : x.ino < a.ino
    · simp [h]
    · simp only [h, if_false, ih]
      split
      · rfl
      · split <;> rfl
theorem insN_next (x : Nd) {l : List Nd} {k : Nat} (h : k < l.length) : insN x (l.take (k + 1)) = if (insN x (l.take k)).2 = true then ((insN x (l.take k)).1 ++ [l[k]], true) else if x.ino < l[k].ino then ((insN x (l.take k)).1 ++ [x, l[k]], true) else ((insN x (l.take k)).1 ++ [l[k]], false) := by
  rw [List.take_succ_eq_append_getElem h, insN_snoc]
theorem ins_len (x : Nd) (l : List Nd) : (insN x l).1.length ≤ l.length + 1 := by
  induction l with
  | nil => simp [insN]
  | cons a r ih =>
    simp only [insN]
    split
    · simp
    · simp; exact ih
theorem ins_mem (x : Nd) (l : List Nd) (e : Nd) (h : e ∈ (insN x l).1) : e = x ∨ e ∈ l := by
  induction l with
  | nil => simp [insN] at h
  | cons a r ih =>
    simp only [insN] at h
    split at h
    · rcases List.mem_cons.1 h with h | h
      · exact .inl h
      · exact .inr h
    · rcases List.mem_cons.1 h with h | h
      · exact .inr (by simp [h])
      · rcases ih h with h | h
        · exact .inl h
        · exact .inr (by simp [h])
def finN (x : Nd) (l : List Nd) : List Nd := if (insN x l).2 = true then (insN x l).1 else (insN x l).1 ++ [x]
theorem fin_cons_lt {x e : Nd} {r : List Nd} (h : x.ino < e.ino) : finN x (e :: r) = x :: e :: r := by simp [finN, insN, h]
theorem fin_cons_ge {x e : Nd} {r : List Nd} (h : ¬ x.ino < e.ino) : finN x (e :: r) = e :: finN x r := by
  simp only [finN, insN, h, if_false]
  split <;> rfl
theorem fin_eq (x : Nd) (l : List Nd) : finN x (dropN l x.ino) = setN l x := by
  unfold dropN setN
  have hb : finN x (behindN l x.ino) = x :: behindN l x.ino := by
    cases h : behindN l x.ino with
    | nil => rfl
    | cons e r =>
      have : e ∈ behindN l x.ino := by rw [h]; simp
      exact fin_cons_lt (of_decide_eq_true (List.mem_filter.1 this).2)
  have ha : ∀ e ∈ aheadN l x.ino, e.ino < x.ino := fun e he => of_decide_eq_true (List.mem_filter.1 he).2
  revert ha
  induction aheadN l x.ino with
  | nil => intro _; exact hb
  | cons e r ih =>
    intro ha
    have := ha e (by simp)
    rw [List.cons_append, fin_cons_ge (by omega), ih fun e he => ha e (by simp [he])]; rfl

/-- What the rounds of TableHolds keep. -/
def HoldsInv (F kept : List Nd) : Prop := riseP F ∧ F.Perm kept
theorem holds_start : HoldsInv [] [] := ⟨List.Pairwise.nil, List.Perm.refl _⟩
theorem set_perm {l : List Nd} (x : Nd) (hs : riseP l) : (setN l x).Perm (l.filter (fun e => e.ino != x.ino) ++ [x]) := by
  rw [dropN_eq l x.ino hs]
  unfold setN dropN
  rw [List.append_assoc]
  exact (List.Perm.append_left _ (List.perm_append_comm (l₁ := [x]) (l₂ := behindN l x.ino)))
theorem holds_set {F kept : List Nd} (h : HoldsInv F kept) (x : Nd) : HoldsInv (setN F x) (kept.filter (fun e => e.ino != x.ino) ++ [x]) :=
  ⟨set_rise x h.1, (set_perm x h.1).trans ((h.2.filter _).append_right _)⟩
theorem holds_drop {F kept : List Nd} (h : HoldsInv F kept) (x : Nd) : HoldsInv (dropN (setN F x) x.ino) (kept.filter (fun e => e.ino != x.ino)) := by
  have h1 := holds_set h x
  refine ⟨drop_rise _ h1.1, ?_⟩
  rw [← dropN_eq _ _ h1.1]
  have := h1.2.filter (fun e => e.ino != x.ino)
  rw [List.filter_append, List.filter_filter] at this
  simpa using this
theorem holds_get {F kept : List Nd} (h : HoldsInv F kept) {k : Nat} (hk : k < kept.length) : hasN F kept[k].ino = true ∧ getN F kept[k].ino = kept[k] := by
  have hm : kept[k] ∈ F := h.2.mem_iff.2 (List.getElem_mem hk)
  obtain ⟨i, hi, e⟩ := List.getElem_of_mem hm
  have hno : (F.take i).any (fun e => e.ino == kept[k].ino) = false := by
    rw [List.any_eq_false]; intro y hy
    obtain ⟨j, hj, rfl⟩ := List.getElem_of_mem hy
    have hji : j < i := by simp at hj; omega
    have := List.pairwise_iff_getElem.1 h.1 j i (by omega) hi hji
    rw [List.getElem_take, ← e]; simp; omega
  have := getN_at hi hno (by rw [e])
  exact ⟨this.2, this.1.trans e⟩
theorem holds_len {F kept : List Nd} (h : HoldsInv F kept) : F.length = kept.length := h.2.length_eq
theorem filtN_next {l : List Nd} {n : Int} {k : Nat} (h : k < l.length) : (l.take (k + 1)).filter (fun e => e.ino != n) = (l.take k).filter (fun e => e.ino != n) ++ (if l[k].ino != n then [l[k]] else []) := by
  rw [List.take_succ_eq_append_getElem h, List.filter_append]; congr 1; simp only [List.filter_cons, List.filter_nil]
def fewX (x : Nd) : Bool := decide (x.data.length ≤ 5000) && decide (x.ents.length ≤ 40) && x.ents.all (fun e => decide (e.1.length ≤ 300))
def fewN (l : List Nd) : Bool := decide (l.length ≤ 40) && l.all fewX
theorem fewN_no {l : List Nd} {k : Nat} (h : k < l.length) (hx : fewX l[k] = false) : fewN l = false := by
  unfold fewN
  rw [show l.all fewX = false from by rw [List.all_eq_false]; exact ⟨_, List.getElem_mem h, by rw [hx]; simp⟩, Bool.and_false]
theorem fewN_end {l : List Nd} {k : Nat} (h : ∀ j (hj : j < l.length), j < k → fewX l[j] = true) (hk : ¬ (k < l.length ∧ k < 100)) : fewN l = decide (l.length ≤ 40) := by
  unfold fewN
  by_cases h40 : l.length ≤ 40
  · rw [show l.all fewX = true from by rw [List.all_eq_true]; intro x hx; obtain ⟨i, hi, rfl⟩ := List.getElem_of_mem hx; exact h i hi (by omega), Bool.and_true]
  · rw [decide_eq_false h40, Bool.false_and]
theorem fewX_no1 {x : Nd} (h : ¬ x.data.length ≤ 5000) : fewX x = false := by unfold fewX; rw [decide_eq_false h]; rfl
theorem fewX_no2 {x : Nd} (h : ¬ x.ents.length ≤ 40) : fewX x = false := by unfold fewX; rw [decide_eq_false h, Bool.and_false]; rfl
theorem fewX_no3 {x : Nd} {m : Nat} (hm : m < x.ents.length) (h : ¬ x.ents[m].1.length ≤ 300) : fewX x = false := by
  unfold fewX
  rw [show x.ents.all (fun e => decide (e.1.length ≤ 300)) = false from by rw [List.all_eq_false]; exact ⟨_, List.getElem_mem hm, by simpa using h⟩, Bool.and_false]
theorem fewX_yes {x : Nd} (h1 : x.data.length ≤ 5000) (h2 : x.ents.length ≤ 40) (h3 : ∀ i (hi : i < x.ents.length), x.ents[i].1.length ≤ 300) : fewX x = true := by
  unfold fewX
  rw [decide_eq_true h1, decide_eq_true h2, show x.ents.all (fun e => decide (e.1.length ≤ 300)) = true from by
    rw [List.all_eq_true]; intro e he; obtain ⟨i, hi, rfl⟩ := List.getElem_of_mem he; exact decide_eq_true (h3 i hi)]; rfl
theorem fewN_small {l : List Nd} (h : fewN l = true) : l.length ≤ 40 ∧ ∀ x ∈ l, x.data.length ≤ 5000 := by
  unfold fewN at h
  rw [Bool.and_eq_true, decide_eq_true_eq, List.all_eq_true] at h
  refine ⟨h.1, fun x hx => ?_⟩
  have := h.2 x hx
  unfold fewX at this
  simp only [Bool.and_eq_true, decide_eq_true_eq] at this
  exact this.1.1
end Go.Proofs.YtobepdmpacdakaaGreat

/- What a table's inodes cost, as lists. No program's function. -/
namespace Go.Proofs.YtobepdmpacdakaaGreat

def costN (x : Nd) : Nat := if x.kind = 1 then x.data.length else 0
def bytesN : List Nd → Nat
  | [] => 0
  | x :: l => costN x + bytesN l
theorem bytesN_append (a b : List Nd) : bytesN (a ++ b) = bytesN a + bytesN b := by
  induction a with
  | nil => simp [bytesN]
  | cons x l ih => simp [bytesN, ih]; omega
theorem bytesN_next {l : List Nd} {k : Nat} (h : k < l.length) : bytesN (l.take (k + 1)) = bytesN (l.take k) + costN l[k] := by
  rw [List.take_succ_eq_append_getElem h, bytesN_append]; simp [bytesN]
theorem bytesN_take (l : List Nd) (k : Nat) : bytesN (l.take k) ≤ bytesN l := by
  have := bytesN_append (l.take k) (l.drop k)
  rw [List.take_append_drop] at this; omega
theorem bytesN_end (l : List Nd) : bytesN (l.take l.length) = bytesN l := by rw [List.take_length]
theorem costN_le (x : Nd) : costN x ≤ x.data.length := by unfold costN; split <;> omega
theorem costN_no {x : Nd} (h : ¬ x.kind = 1) : costN x = 0 := by simp [costN, h]
theorem costN_yes {x : Nd} (h : x.kind = 1) : costN x = x.data.length := by simp [costN, h]
theorem bytesN_few {l : List Nd} {m : Nat} (h : ∀ x ∈ l, x.data.length ≤ m) : bytesN l ≤ l.length * m := by
  induction l with
  | nil => simp [bytesN]
  | cons x l ih =>
    have h1 := ih fun y hy => h y (by simp [hy])
    have h2 := h x (by simp)
    have h3 := costN_le x
    simp only [bytesN, List.length_cons, Nat.add_mul]; omega
def fitsB (mi mb : Int) (l : List Nd) (i b : Int) : Bool := decide ((l.length : Int) + i ≤ mi) && decide ((bytesN l : Int) + b ≤ mb)

/-- One file more, wherever it is put. -/
theorem bytesN_perm {a b : List Nd} (h : a.Perm b) : bytesN a = bytesN b := by
  induction h with
  | nil => rfl
  | cons x _ ih => simp [bytesN, ih]
  | swap x y l => simp [bytesN]; omega
  | trans _ _ h1 h2 => exact h1.trans h2
theorem ins_perm (x : Nd) (l : List Nd) : (finN x l).Perm (x :: l) := by
  induction l with
  | nil => exact List.Perm.refl _
  | cons e r ih =>
    by_cases h : x.ino < e.ino
    · rw [fin_cons_lt h]
    · rw [fin_cons_ge h]
      exact (List.Perm.cons e ih).trans (List.Perm.swap x e r)
theorem fin_bytes (x : Nd) (l : List Nd) : bytesN (finN x l) = costN x + bytesN l := by rw [bytesN_perm (ins_perm x l)]; rfl
theorem fin_len (x : Nd) (l : List Nd) : (finN x l).length = l.length + 1 := by rw [(ins_perm x l).length_eq]; rfl
theorem filt_not {l : List Nd} {n : Int} (h : hasN l n = false) : l.filter (fun e => e.ino != n) = l := by
  refine filtN_all fun e he => ?_
  have := List.any_eq_false.1 h e he
  simpa [bne] using this
theorem fits_more {mi mb : Int} {l : List Nd} {x : Nd} (hx : x.kind = 1) (i b : Int) : fitsB mi mb (finN x l) i b = fitsB mi mb l (i + 1) (b + (x.data.length : Int)) := by
  unfold fitsB
  rw [fin_len, fin_bytes, costN_yes hx]
  congr 2
  · rw [show ((l.length + 1 : Nat) : Int) + i = (l.length : Int) + (i + 1) from by omega]
  · rw [show ((x.data.length + bytesN l : Nat) : Int) + b = (bytesN l : Int) + (b + (x.data.length : Int)) from by omega]
theorem fits_less {mi mb : Int} {l : List Nd} {i b : Int} (h : fitsB mi mb l (i + 1) b = true) : fitsB mi mb l i b = true := by
  simp only [fitsB, Bool.and_eq_true, decide_eq_true_eq] at h ⊢
  omega
end Go.Proofs.YtobepdmpacdakaaGreat

/- Whether a file system is whole, as lists: the document's six rules. No program's function. -/
namespace Go.Proofs.YtobepdmpacdakaaGreat

theorem allT_next {α : Type} {l : List α} {p : α → Bool} {k : Nat} (h : k < l.length) (ht : (l.take k).all p = true) (hp : p l[k] = true) : (l.take (k + 1)).all p = true := by
  rw [List.take_succ_eq_append_getElem h, List.all_append, ht]; simp [hp]
theorem all_no {α : Type} {l : List α} {p : α → Bool} {k : Nat} (h : k < l.length) (hp : p l[k] = false) : l.all p = false := by
  rw [List.all_eq_false]; exact ⟨_, List.getElem_mem h, by simp [hp]⟩
theorem allT_end {α : Type} {l : List α} {p : α → Bool} (ht : (l.take l.length).all p = true) : l.all p = true := by rwa [List.take_length] at ht

/-- Rule 1. -/
def limB (mi mb nx : Int) : Bool := decide (1 ≤ mi) && decide (mi ≤ 1073741824) && decide (0 ≤ mb) && decide (mb ≤ 1073741824) && decide (nx ≤ 1099511627776)
def inoB (nx : Int) (x : Nd) : Bool := decide (1 ≤ x.ino) && decide (x.ino < nx)
def rootB (l : List Nd) : Bool := riseN l && hasN l 1 && ((getN l 1).kind == 2)
def firstB (mi mb nx : Int) (l : List Nd) : Bool := limB mi mb nx && l.all (inoB nx) && rootB l
/-- Rule 2. -/
def secondX (x : Nd) : Bool :=
  if x.kind = 2 then x.data.isEmpty && rightB x.ents
  else if x.kind = 1 then x.ents.isEmpty && decide (x.parent = 0)
  else if x.kind = 3 then x.ents.isEmpty && decide (x.parent = 0) && decide (1 ≤ x.data.length) && decide (x.data.length ≤ 4095) && x.data.all (fun c => c != 0)
  else false
def secondB (l : List Nd) : Bool := l.all secondX
/-- Rule 3. -/
def thirdX (l : List Nd) (x : Nd) : Bool := x.ents.all (fun e => hasN l e.2)
def thirdB (l : List Nd) : Bool := l.all (thirdX l)
/-- Who names whom: each entry, with the number of its directory. -/
def pairsN (l : List Nd) : List (Int × Ent) := l.flatMap (fun x => x.ents.map (fun e => (x.ino, e)))
def cntP (ps : List (Int × Ent)) (i : Int) : Nat := ps.countP (fun p => p.2.2 == i)
def lastP (ps : List (Int × Ent)) (i : Int) : Int := ((ps.filter (fun p => p.2.2 == i)).getLast?.map (·.1)).getD 0
def namesN (l : List Nd) (i : Int) : Nat := cntP (pairsN l) i
def inN (l : List Nd) (i : Int) : Int := lastP (pairsN l) i
theorem cntP_next (ps : List (Int × Ent)) (p : Int × Ent) (i : Int) : cntP (ps ++ [p]) i = if p.2.2 == i then cntP ps i + 1 else cntP ps i := by
  simp only [cntP, List.countP_append, List.countP_cons, List.countP_nil]
  split <;> omega
theorem lastP_next (ps : List (Int × Ent)) (p : Int × Ent) (i : Int) : lastP (ps ++ [p]) i = if p.2.2 == i then p.1 else lastP ps i := by
  simp only [lastP, List.filter_append]
  cases h : (p.2.2 == i) <;> simp [h]
def pairsT (l : List Nd) (k m : Nat) : List (Int × Ent) := pairsN (l.take k) ++ ((l[k]?.map (fun x => (x.ents.take m).map (fun e => (x.ino, e)))).getD [])
theorem pairsT_zero (l : List Nd) (k : Nat) : pairsT l k 0 = pairsN (l.take k) := by
  unfold pairsT
  cases l[k]? <;> simp
theorem pairsT_next {l : List Nd} {k m : Nat} (h : k < l.length) (hm : m < l[k].ents.length) : pairsT l k (m + 1) = pairsT l k m ++ [(l[k].ino, l[k].ents[m])] := by
  unfold pairsT
  rw [List.getElem?_eq_getElem h, Option.map_some, Option.map_some, Option.getD_some, Option.getD_some, List.take_succ_eq_append_getElem hm, List.map_append, ← List.append_assoc]
  rfl
theorem pairsT_end {l : List Nd} {k : Nat} (h : k < l.length) : pairsT l k l[k].ents.length = pairsN (l.take (k + 1)) := by
  unfold pairsT
  rw [List.getElem?_eq_getElem h, Option.map_some, Option.getD_some, List.take_length, List.take_succ_eq_append_getElem h]
  unfold pairsN
  rw [List.flatMap_append]
  simp only [List.flatMap_cons, List.flatMap_nil, List.append_nil]
theorem pairs_all (l : List Nd) : pairsN (l.take l.length) = pairsN l := by rw [List.take_length]
theorem pairs_len (l : List Nd) {m : Nat} (h : ∀ x ∈ l, x.ents.length ≤ m) : (pairsN l).length ≤ l.length * m := by
  unfold pairsN
  induction l with
  | nil => simp
  | cons x r ih =>
    have h1 := ih fun y hy => h y (by simp [hy])
    have h2 := h x (by simp)
    simp only [List.flatMap_cons, List.length_append, List.length_map, List.length_cons, Nat.add_mul]; omega
theorem cntP_le (ps : List (Int × Ent)) (i : Int) : cntP ps i ≤ ps.length := List.countP_le_length
theorem pairsT_len (l : List Nd) (k m : Nat) : (pairsT l k m).length ≤ (pairsN l).length := by
  rcases Nat.lt_or_ge k l.length with h | h
  · have e : pairsN l = pairsN (l.take k) ++ (l[k].ents.map (fun e => (l[k].ino, e)) ++ pairsN (l.drop (k + 1))) := by
      have e0 : l = l.take k ++ l[k] :: l.drop (k + 1) := by rw [← List.drop_eq_getElem_cons h, List.take_append_drop]
      conv => lhs; rw [e0]
      unfold pairsN
      rw [List.flatMap_append, List.flatMap_cons]
    unfold pairsT
    rw [List.getElem?_eq_getElem h, Option.map_some, Option.getD_some, e]
    simp only [List.length_append, List.length_map, List.length_take]
    omega
  · unfold pairsT
    rw [List.getElem?_eq_none h, List.take_of_length_le h]
    simp
/-- Rule 4. -/
def fourthX (l : List Nd) (x : Nd) : Bool :=
  decide (x.links = (namesN l x.ino : Int)) &&
    (if x.ino = 1 then decide (namesN l x.ino = 0) && decide (x.parent = 1)
     else decide (1 ≤ namesN l x.ino) && (if x.kind = 2 then decide (namesN l x.ino = 1) && decide (x.parent = inN l x.ino) else true))
def fourthB (l : List Nd) : Bool := l.all (fourthX l)
/-- Rule 5: rounds. -/
def seeB (s : List Int) : List Ent → List Int
  | [] => s
  | e :: r => seeB (if s.contains e.2 then s else s ++ [e.2]) r
theorem see_snoc (s : List Int) (es : List Ent) (e : Ent) : seeB s (es ++ [e]) = if (seeB s es).contains e.2 then seeB s es else seeB s es ++ [e.2] := by
  induction es generalizing s with
  | nil => rfl
  | cons a r ih => exact ih _
theorem see_next {es : List Ent} {m : Nat} (s : List Int) (h : m < es.length) : seeB s (es.take (m + 1)) = if (seeB s (es.take m)).contains es[m].2 then seeB s (es.take m) else seeB s (es.take m) ++ [es[m].2] := by
  rw [List.take_succ_eq_append_getElem h, see_snoc]
def bfsN (l : List Nd) : Nat → List Int
  | 0 => [1]
  | k + 1 => match (bfsN l k)[k]? with
    | some i => seeB (bfsN l k) (getN l i).ents
    | none => bfsN l k
theorem bfs_next {l : List Nd} {k : Nat} (h : k < (bfsN l k).length) : bfsN l (k + 1) = seeB (bfsN l k) (getN l (bfsN l k)[k]).ents := by
  show (match (bfsN l k)[k]? with | some i => _ | none => _) = _
  rw [List.getElem?_eq_getElem h]
theorem bfs_stop {l : List Nd} {k : Nat} (h : (bfsN l k).length ≤ k) : ∀ j, bfsN l (k + j) = bfsN l k := by
  intro j
  induction j with
  | zero => rfl
  | succ j ih =>
    have e : bfsN l (k + (j + 1)) = match (bfsN l (k + j))[k + j]? with | some i => seeB (bfsN l (k + j)) (getN l i).ents | none => bfsN l (k + j) := rfl
    rw [e, ih, List.getElem?_eq_none (by omega)]
def fifthB (l : List Nd) : Bool := decide ((bfsN l (l.length + 1)).length = l.length)
theorem see_has (s : List Int) (es : List Ent) (P : Int → Prop) (hs : ∀ i ∈ s, P i) (he : ∀ e ∈ es, P e.2) : ∀ i ∈ seeB s es, P i := by
  induction es generalizing s with
  | nil => exact hs
  | cons e r ih =>
    refine ih _ ?_ (fun x hx => he x (by simp [hx]))
    intro i hi
    split at hi
    · exact hs i hi
    · rcases List.mem_append.1 hi with h | h
      · exact hs i h
      · rw [List.mem_singleton.1 h]; exact he e (by simp)
theorem see_nodup (s : List Int) (es : List Ent) (hs : s.Nodup) : (seeB s es).Nodup := by
  induction es generalizing s with
  | nil => exact hs
  | cons e r ih =>
    refine ih _ ?_
    split
    · exact hs
    · rename_i h
      rw [List.contains_eq_mem, decide_eq_true_eq] at h
      refine List.nodup_append.2 ⟨hs, by simp, ?_⟩
      intro a ha b hb e2
      rw [List.mem_singleton.1 hb] at e2
      exact h (e2 ▸ ha)
theorem see_len (s : List Int) (es : List Ent) : s.length ≤ (seeB s es).length := by
  induction es generalizing s with
  | nil => exact Nat.le_refl _
  | cons e r ih =>
    refine Nat.le_trans ?_ (ih _)
    split <;> simp
theorem see_prefix (s : List Int) (es : List Ent) : s <+: seeB s es := by
  induction es generalizing s with
  | nil => exact List.prefix_rfl
  | cons e r ih =>
    refine List.IsPrefix.trans ?_ (ih _)
    split
    · exact List.prefix_rfl
    · exact List.prefix_append _ _
theorem get_mem {l : List Nd} {i : Int} (h : hasN l i = true) : getN l i ∈ l ∧ (getN l i).ino = i := by
  unfold hasN at h
  unfold getN
  cases hf : l.find? (fun e => e.ino == i) with
  | none =>
    rw [List.find?_eq_none] at hf
    rw [List.any_eq_true] at h
    obtain ⟨x, hx, hx2⟩ := h
    exact absurd hx2 (by simpa using hf x hx)
  | some x => exact ⟨List.mem_of_find?_eq_some hf, by simpa using List.find?_some hf⟩
theorem get_ents_has {l : List Nd} (h3 : thirdB l = true) (i : Int) : ∀ e ∈ (getN l i).ents, hasN l e.2 = true := by
  intro e he
  cases hh : hasN l i
  · rw [getN_none hh] at he; cases he
  · have hm := (get_mem hh).1
    have := List.all_eq_true.1 h3 _ hm
    exact List.all_eq_true.1 this e he
theorem bfs_has {l : List Nd} (h3 : thirdB l = true) (h1 : hasN l 1 = true) : ∀ k, ∀ i ∈ bfsN l k, hasN l i = true := by
  intro k
  induction k with
  | zero => intro i hi; rw [List.mem_singleton.1 hi]; exact h1
  | succ k ih =>
    rcases Nat.lt_or_ge k (bfsN l k).length with h | h
    · rw [bfs_next h]
      exact see_has _ _ (fun i => hasN l i = true) ih (get_ents_has h3 _)
    · rw [show bfsN l (k + 1) = bfsN l k from bfs_stop h 1]; exact ih
theorem bfs_nodup (l : List Nd) : ∀ k, (bfsN l k).Nodup := by
  intro k
  induction k with
  | zero => simp [bfsN]
  | succ k ih =>
    rcases Nat.lt_or_ge k (bfsN l k).length with h | h
    · rw [bfs_next h]; exact see_nodup _ _ ih
    · rw [show bfsN l (k + 1) = bfsN l k from bfs_stop h 1]; exact ih
theorem has_inos {l : List Nd} {i : Int} (h : hasN l i = true) : i ∈ l.map (·.ino) := List.mem_map.2 ⟨_, (get_mem h).1, (get_mem h).2⟩
theorem len_sub {α : Type} [DecidableEq α] (s : List α) : ∀ (t : List α), s.Nodup → (∀ x ∈ s, x ∈ t) → s.length ≤ t.length := by
  induction s with
  | nil => intro t _ _; simp
  | cons a r ih =>
    intro t hs h
    obtain ⟨h1, h2⟩ := List.nodup_cons.1 hs
    have ha := h a (by simp)
    have := ih (t.erase a) h2 (fun x hx => (List.mem_erase_of_ne (fun e : x = a => h1 (by rw [← e]; exact hx))).2 (h x (by simp [hx])))
    rw [List.length_erase_of_mem ha] at this
    have := List.length_pos_of_mem ha
    simp; omega
theorem bfs_len {l : List Nd} (h3 : thirdB l = true) (h1 : hasN l 1 = true) (k : Nat) : (bfsN l k).length ≤ l.length := by
  have hsub : ∀ i ∈ bfsN l k, i ∈ l.map (·.ino) := fun i hi => has_inos (bfs_has h3 h1 k i hi)
  have := len_sub _ _ (bfs_nodup l k) hsub
  simpa using this
theorem bfs_end {l : List Nd} (h3 : thirdB l = true) (h1 : hasN l 1 = true) {k : Nat} (h : (bfsN l k).length ≤ k) (hk : k ≤ l.length + 1) : bfsN l (l.length + 1) = bfsN l k := by
  have := bfs_stop h (l.length + 1 - k)
  rwa [show k + (l.length + 1 - k) = l.length + 1 from by omega] at this
/-- All six. -/
def checkN (mi mb nx : Int) (l : List Nd) : Int :=
  if firstB mi mb nx l = false then 1 else if secondB l = false then 2 else if thirdB l = false then 3 else if fourthB l = false then 4 else if fifthB l = false then 5 else if fitsB mi mb l 0 0 = false then 6 else 0
def okB (mi mb nx : Int) (l : List Nd) : Bool := fewN l && decide (checkN mi mb nx l = 0)
theorem first_has {mi mb nx : Int} {l : List Nd} (h : firstB mi mb nx l = true) : hasN l 1 = true := by
  simp only [firstB, rootB, Bool.and_eq_true] at h; exact h.2.1.2
end Go.Proofs.YtobepdmpacdakaaGreat

/- A file system gone through, as lists. No program's function. -/
namespace Go.Proofs.YtobepdmpacdakaaGreat

def underB (p n : List UInt8) : List UInt8 := if p = [47] then p ++ n else p ++ [47] ++ n
theorem under_len (p n : List UInt8) : (underB p n).length ≤ p.length + 1 + n.length := by unfold underB; split <;> simp <;> omega
/-- The walk from an inode, by a path, so deep at most. -/
def belowN (l : List Nd) : Nat → Int → List UInt8 → List Ent
  | 0, _, _ => []
  | d + 1, i, p => if hasN l i = true then (p, i) :: (getN l i).ents.flatMap (fun e => belowN l d e.2 (underB p e.1)) else []
def listN (l : List Nd) : List Ent := belowN l (l.length + 1) 1 [47]
def goneN (l : List Nd) (d : Nat) (i : Int) (p : List UInt8) (k : Nat) : List Ent := (p, i) :: ((getN l i).ents.take k).flatMap (fun e => belowN l d e.2 (underB p e.1))
theorem below_no {l : List Nd} {d : Nat} {i : Int} {p : List UInt8} (h : hasN l i = false) : belowN l d i p = [] := by
  cases d with
  | zero => rfl
  | succ d => unfold belowN; rw [h]; rfl
theorem gone_zero (l : List Nd) (d : Nat) (i : Int) (p : List UInt8) : goneN l d i p 0 = [(p, i)] := by simp [goneN]
theorem gone_next {l : List Nd} {d : Nat} {i : Int} {p : List UInt8} {k : Nat} (h : k < (getN l i).ents.length) : goneN l d i p (k + 1) = goneN l d i p k ++ belowN l d (getN l i).ents[k].2 (underB p (getN l i).ents[k].1) := by
  unfold goneN
  rw [List.take_succ_eq_append_getElem h, List.flatMap_append]
  simp
theorem gone_end {l : List Nd} {d : Nat} {i : Int} {p : List UInt8} (h : hasN l i = true) : goneN l d i p (getN l i).ents.length = belowN l (d + 1) i p := by
  unfold goneN
  rw [List.take_length]
  show _ = if hasN l i = true then _ else _
  rw [if_pos h]
theorem gone_le {l : List Nd} {d : Nat} {i : Int} {p : List UInt8} (h : hasN l i = true) (k : Nat) : (goneN l d i p k).length ≤ (belowN l (d + 1) i p).length := by
  rw [← gone_end h]
  unfold goneN
  rw [List.take_length]
  have e := List.take_append_drop k (getN l i).ents
  conv => rhs; rw [← e]
  rw [List.flatMap_append]
  simp
def pathsN (l : List Nd) (i : Int) : List (List UInt8) := ((listN l).filter (fun e => e.2 == i)).map (·.1)
def pathT (L : List Ent) (i : Int) (k : Nat) : List (List UInt8) := ((L.take k).filter (fun e => e.2 == i)).map (·.1)
theorem pathT_next {L : List Ent} {i : Int} {k : Nat} (h : k < L.length) : pathT L i (k + 1) = if L[k].2 == i then pathT L i k ++ [L[k].1] else pathT L i k := by
  unfold pathT
  rw [List.take_succ_eq_append_getElem h, List.filter_append]
  cases e : (L[k].2 == i) <;> simp [e]
theorem pathT_len (L : List Ent) (i : Int) (k : Nat) : (pathT L i k).length ≤ L.length := by
  unfold pathT
  rw [List.length_map]
  exact Nat.le_trans (List.length_filter_le _ _) (by simp; omega)
theorem pathT_end (L : List Ent) (i : Int) : pathT L i L.length = (L.filter (fun e => e.2 == i)).map (·.1) := by unfold pathT; rw [List.take_length]
end Go.Proofs.YtobepdmpacdakaaGreat

/- A sound file system is a tree: the levels below Root, each directory on one of them, once. No program's function. -/
namespace Go.Proofs.YtobepdmpacdakaaGreat

/-! ### What soundness gives -/
theorem ok_parts {mi mb nx : Int} {l : List Nd} (h : okB mi mb nx l = true) : fewN l = true ∧ firstB mi mb nx l = true ∧ secondB l = true ∧ thirdB l = true ∧ fourthB l = true ∧ fifthB l = true ∧ fitsB mi mb l 0 0 = true := by
  unfold okB at h
  rw [Bool.and_eq_true, decide_eq_true_eq] at h
  refine ⟨h.1, ?_⟩
  have h2 := h.2
  unfold checkN at h2
  split at h2
  · omega
  split at h2
  · omega
  split at h2
  · omega
  split at h2
  · omega
  split at h2
  · omega
  split at h2
  · omega
  simp_all

def isDir (l : List Nd) (i : Int) : Bool := hasN l i && decide ((getN l i).kind = 2)
def kidsN (l : List Nd) (i : Int) : List Int := (getN l i).ents.map (·.2)
structure Tree (l : List Nd) : Prop where
  rise : riseP l
  root : hasN l 1 = true
  rootDir : (getN l 1).kind = 2
  files : ∀ x ∈ l, x.kind ≠ 2 → x.ents = []
  rights : ∀ x ∈ l, x.kind = 2 → rightB x.ents = true
  there : ∀ x ∈ l, ∀ e ∈ x.ents, hasN l e.2 = true
  noRoot : namesN l 1 = 0
  once : ∀ x ∈ l, x.kind = 2 → x.ino ≠ 1 → namesN l x.ino = 1
  parent : ∀ x ∈ l, x.kind = 2 → x.ino ≠ 1 → x.parent = inN l x.ino
  seen : (bfsN l (l.length + 1)).length = l.length
theorem getN_of {l : List Nd} (hr : riseP l) {x : Nd} (hx : x ∈ l) : getN l x.ino = x ∧ hasN l x.ino = true := by
  obtain ⟨i, hi, e⟩ := List.getElem_of_mem hx
  have := getN_at (n := x.ino) hi (by
    rw [List.any_eq_false]
    intro y hy
    obtain ⟨j, hj, rfl⟩ := List.getElem_of_mem hy
    have hji : j < i := by simp at hj; omega
    have := List.pairwise_iff_getElem.1 hr j i (by omega) hi hji
    rw [List.getElem_take, ← e]; simp; omega) (by rw [e])
  exact ⟨this.1.trans e, this.2⟩
theorem tree_of {mi mb nx : Int} {l : List Nd} (h : okB mi mb nx l = true) : Tree l := by
  obtain ⟨_, h1, h2, h3, h4, h5, _⟩ := ok_parts h
  have hf := h1
  simp only [firstB, rootB, Bool.and_eq_true, beq_iff_eq] at hf
  have hr := (riseN_iff l).1 hf.2.1.1
  have h2' := fun x hx => List.all_eq_true.1 h2 x hx
  have h4' := fun x hx => List.all_eq_true.1 h4 x hx
  have hroot := get_mem hf.2.1.2
  refine ⟨hr, hf.2.1.2, hf.2.2, ?_, ?_, ?_, ?_, ?_, ?_, by simpa [fifthB] using h5⟩
  · intro x hx hk
    have := h2' x hx
    unfold secondX at this
    rw [if_neg hk] at this
    split at this
    · simp only [Bool.and_eq_true, List.isEmpty_iff] at this; exact this.1
    · split at this
      · simp only [Bool.and_eq_true, List.isEmpty_iff] at this; exact this.1.1.1.1
      · cases this
  · intro x hx hk
    have := h2' x hx
    unfold secondX at this
    rw [if_pos hk, Bool.and_eq_true] at this
    exact this.2
  · intro x hx e he
    exact List.all_eq_true.1 (List.all_eq_true.1 h3 x hx) e he
  · have := h4' _ hroot.1
    unfold fourthX at this
    rw [hroot.2, if_pos rfl] at this
    simp only [Bool.and_eq_true, decide_eq_true_eq] at this
    exact this.2.1
  · intro x hx hk hi
    have := h4' _ hx
    unfold fourthX at this
    rw [if_neg hi, if_pos hk] at this
    simp only [Bool.and_eq_true, decide_eq_true_eq] at this
    exact this.2.2.1
  · intro x hx hk hi
    have := h4' _ hx
    unfold fourthX at this
    rw [if_neg hi, if_pos hk] at this
    simp only [Bool.and_eq_true, decide_eq_true_eq] at this
    exact this.2.2.2

/-! ### Levels -/
def lvN (l : List Nd) : Nat → List Int → List Int
  | 0, L => L
  | d + 1, L => (lvN l d L).flatMap (kidsN l)
/-- All that is come to in so many levels. -/
def visN (l : List Nd) : Nat → List Int → List Int
  | 0, _ => []
  | d + 1, L => L ++ visN l d (L.flatMap (kidsN l))
theorem lv_in (l : List Nd) (d : Nat) (L : List Int) : lvN l (d + 1) L = lvN l d (L.flatMap (kidsN l)) := by
  induction d with
  | zero => rfl
  | succ d ih => show (lvN l (d + 1) L).flatMap _ = _; rw [ih]; rfl
theorem vis_out (l : List Nd) (d : Nat) : ∀ L, visN l (d + 1) L = L ++ (visN l d L).flatMap (kidsN l) := by
  induction d with
  | zero => intro L; simp [visN]
  | succ d ih =>
    intro L
    show L ++ visN l (d + 1) (L.flatMap (kidsN l)) = _
    rw [ih]
    show _ = L ++ (L ++ visN l d (L.flatMap (kidsN l))).flatMap (kidsN l)
    rw [List.flatMap_append]
theorem vis_lv (l : List Nd) (d : Nat) (L : List Int) : visN l (d + 1) L = visN l d L ++ lvN l d L := by
  induction d generalizing L with
  | zero => simp [visN, lvN]
  | succ d ih =>
    show L ++ visN l (d + 1) (L.flatMap (kidsN l)) = (L ++ visN l d (L.flatMap (kidsN l))) ++ _
    rw [ih, lv_in, List.append_assoc]
theorem kids_dir {l : List Nd} (t : Tree l) {i : Int} (h : kidsN l i ≠ []) : isDir l i = true := by
  unfold kidsN at h
  cases hh : hasN l i
  · rw [getN_none hh] at h; exact absurd rfl h
  · have hm := get_mem hh
    unfold isDir
    rw [hh, Bool.true_and, decide_eq_true_eq]
    refine Decidable.byContradiction fun hk => ?_
    rw [t.files _ hm.1 hk] at h
    exact h rfl
theorem sum_sub (f : Int → Nat) (s : List Int) : ∀ (t : List Int), s.Nodup → (∀ x ∈ s, x ∈ t) → (s.map f).sum ≤ (t.map f).sum := by
  induction s with
  | nil => intro t _ _; simp
  | cons a r ih =>
    intro t hs h
    obtain ⟨h1, h2⟩ := List.nodup_cons.1 hs
    have ha := h a (by simp)
    have h3 := ih (t.erase a) h2 (fun x hx => (List.mem_erase_of_ne (fun e : x = a => h1 (by rw [← e]; exact hx))).2 (h x (by simp [hx])))
    have h4 := ((List.perm_cons_erase ha).map f).sum_nat
    simp only [List.map_cons, List.sum_cons] at h4 ⊢
    omega
theorem sum_filter (f : Int → Nat) (s : List Int) (p : Int → Bool) (h : ∀ i ∈ s, p i = false → f i = 0) : (s.map f).sum = ((s.filter p).map f).sum := by
  induction s with
  | nil => rfl
  | cons a r ih =>
    have := ih fun i hi => h i (by simp [hi])
    rw [List.filter_cons]
    split
    · simp only [List.map_cons, List.sum_cons, this]
    · rename_i hp
      simp only [List.map_cons, List.sum_cons, this, h a (by simp) (by simpa using hp), Nat.zero_add]
theorem nodup_count {s : List Int} (p : Int → Bool) (h : ∀ j, p j = true → s.count j ≤ 1) : (s.filter p).Nodup := by
  rw [List.nodup_iff_count]
  intro a
  cases hp : p a
  · rw [List.count_eq_zero_of_not_mem (by simp [hp])]; omega
  · rw [List.count_filter hp]; exact h a hp
theorem dir_ino {l : List Nd} {i : Int} (h : isDir l i = true) : i ∈ l.map (·.ino) := by
  unfold isDir at h
  rw [Bool.and_eq_true] at h
  exact has_inos h.1
theorem kids_sum {l : List Nd} (t : Tree l) (f : List Ent → Nat) : ((l.map (·.ino)).map (fun i => f (getN l i).ents)).sum = (l.map (fun x => f x.ents)).sum := by
  rw [List.map_map]
  congr 1
  refine List.map_congr_left fun x hx => ?_
  show f (getN l x.ino).ents = _
  rw [(getN_of t.rise hx).1]
theorem names_sum (l : List Nd) (j : Int) : namesN l j = (l.map (fun x => (x.ents.map (·.2)).count j)).sum := by
  unfold namesN pairsN cntP
  induction l with
  | nil => rfl
  | cons x r ih =>
    rw [List.flatMap_cons, List.countP_append, ih, List.map_cons, List.sum_cons]
    congr 1
    rw [List.countP_map, List.count, List.countP_map]
    rfl
theorem count_flat (L : List Int) (g : Int → List Int) (j : Int) : (L.flatMap g).count j = (L.map (fun i => (g i).count j)).sum := by
  induction L with
  | nil => rfl
  | cons a r ih => rw [List.flatMap_cons, List.count_append, ih]; simp
theorem len_flat (L : List Int) (g : Int → List Int) : (L.flatMap g).length = (L.map (fun i => (g i).length)).sum := by
  induction L with
  | nil => rfl
  | cons a r ih => rw [List.flatMap_cons, List.length_append, ih]; simp
/-- Each directory is come to once at most. -/
theorem vis_once {l : List Nd} (t : Tree l) (d : Nat) : ∀ j, isDir l j = true → (visN l d [1]).count j ≤ 1 := by
  induction d with
  | zero => intro j _; simp [visN]
  | succ d ih =>
    intro j hj
    rw [vis_out, List.count_append, count_flat]
    have h1 : ((visN l d [1]).map (fun i => (kidsN l i).count j)).sum ≤ namesN l j := by
      rw [sum_filter _ _ (isDir l) (fun i _ hi => by
        have : kidsN l i = [] := Decidable.byContradiction fun h => by rw [kids_dir t h] at hi; cases hi
        rw [this]; rfl), names_sum, ← kids_sum t (fun es => (es.map (·.2)).count j)]
      refine sum_sub _ _ _ (nodup_count _ ih) (fun x hx => dir_ino (List.mem_filter.1 hx).2)
    by_cases e : j = 1
    · subst e
      rw [t.noRoot] at h1
      simp; omega
    · have hm : hasN l j = true := by unfold isDir at hj; rw [Bool.and_eq_true] at hj; exact hj.1
      have hg := get_mem hm
      have hk : (getN l j).kind = 2 := by unfold isDir at hj; rw [Bool.and_eq_true, decide_eq_true_eq] at hj; exact hj.2
      have h2 := t.once _ hg.1 hk (by rw [hg.2]; exact e)
      rw [hg.2] at h2
      rw [h2] at h1
      have : ([1] : List Int).count j = 0 := List.count_eq_zero_of_not_mem (by simpa using e)
      omega
def entsN (l : List Nd) : Nat := (l.map (fun x => x.ents.length)).sum
theorem vis_len {l : List Nd} (t : Tree l) (d : Nat) : (visN l d [1]).length ≤ 1 + entsN l := by
  cases d with
  | zero => simp [visN]
  | succ d =>
    rw [vis_out, List.length_append, len_flat]
    have h1 : ((visN l d [1]).map (fun i => (kidsN l i).length)).sum ≤ entsN l := by
      rw [sum_filter _ _ (isDir l) (fun i _ hi => by
        have : kidsN l i = [] := Decidable.byContradiction fun h => by rw [kids_dir t h] at hi; cases hi
        rw [this]; rfl)]
      unfold entsN
      rw [← kids_sum t (fun es => es.length)]
      have := sum_sub (fun i => (kidsN l i).length) _ _ (nodup_count _ (vis_once t d)) (fun x hx => dir_ino (List.mem_filter.1 hx).2)
      simpa [kidsN] using this
    simpa using h1
end Go.Proofs.YtobepdmpacdakaaGreat

/- The walk of a sound file system: what it comes to, how often, how deep. No program's function. -/
namespace Go.Proofs.YtobepdmpacdakaaGreat

theorem vis_nil (l : List Nd) (d : Nat) : visN l d [] = [] := by
  induction d with
  | zero => rfl
  | succ d ih => show [] ++ visN l d ([].flatMap (kidsN l)) = []; simpa using ih
theorem vis_append (l : List Nd) (d : Nat) : ∀ A B, (visN l d (A ++ B)).Perm (visN l d A ++ visN l d B) := by
  induction d with
  | zero => intro A B; exact List.Perm.refl _
  | succ d ih =>
    intro A B
    show ((A ++ B) ++ visN l d ((A ++ B).flatMap (kidsN l))).Perm ((A ++ visN l d (A.flatMap (kidsN l))) ++ (B ++ visN l d (B.flatMap (kidsN l))))
    rw [List.flatMap_append]
    refine (List.Perm.append_left _ (ih _ _)).trans ?_
    rw [List.append_assoc, List.append_assoc]
    refine List.Perm.append_left _ ?_
    rw [← List.append_assoc, ← List.append_assoc]
    exact List.Perm.append_right _ List.perm_append_comm
theorem vis_flat (l : List Nd) (d : Nat) (A : List Int) : (visN l d A).Perm (A.flatMap (fun i => visN l d [i])) := by
  induction A with
  | nil => rw [vis_nil]; exact List.Perm.refl _
  | cons a r ih =>
    have := vis_append l d [a] r
    rw [List.flatMap_cons]
    exact this.trans (List.Perm.append_left _ ih)
/-- What the walk comes to are the levels, taken together. -/
theorem below_perm {l : List Nd} (h3 : ∀ x ∈ l, ∀ e ∈ x.ents, hasN l e.2 = true) (d : Nat) : ∀ i p, hasN l i = true → ((belowN l d i p).map (·.2)).Perm (visN l d [i]) := by
  induction d with
  | zero => intro i p _; exact List.Perm.refl _
  | succ d ih =>
    intro i p hi
    have e1 : belowN l (d + 1) i p = (p, i) :: (getN l i).ents.flatMap (fun e => belowN l d e.2 (underB p e.1)) := by
      show (if hasN l i = true then _ else _) = _
      rw [if_pos hi]
    rw [e1]
    show (i :: ((getN l i).ents.flatMap (fun e => belowN l d e.2 (underB p e.1))).map (·.2)).Perm ([i] ++ visN l d ([i].flatMap (kidsN l)))
    refine List.Perm.cons _ ?_
    have e2 : [i].flatMap (kidsN l) = (getN l i).ents.map (·.2) := by simp [kidsN]
    rw [e2]
    refine List.Perm.trans ?_ (vis_flat l d _).symm
    rw [List.map_flatMap, List.flatMap_map]
    have hm := h3 _ (get_mem hi).1
    revert hm
    induction (getN l i).ents with
    | nil => intro _; exact List.Perm.refl _
    | cons e r ih2 =>
      intro hm
      rw [List.flatMap_cons, List.flatMap_cons]
      exact List.Perm.append (ih e.2 _ (hm e (by simp))) (ih2 fun x hx => hm x (by simp [hx]))
theorem list_len {l : List Nd} (t : Tree l) (d : Nat) (p : List UInt8) : (belowN l d 1 p).length ≤ 1 + entsN l := by
  have := (below_perm t.there d 1 p t.root).length_eq
  rw [List.length_map] at this
  rw [this]
  exact vis_len t d

/-! ### How deep -/
theorem lv_has {l : List Nd} (t : Tree l) (d : Nat) : ∀ i ∈ lvN l d [1], hasN l i = true := by
  induction d with
  | zero => intro i hi; rw [List.mem_singleton.1 hi]; exact t.root
  | succ d ih =>
    intro i hi
    obtain ⟨a, ha, hb⟩ := List.mem_flatMap.1 hi
    obtain ⟨e, he, rfl⟩ := List.mem_map.1 hb
    exact t.there _ (get_mem (ih a ha)).1 e he
theorem lv_down {l : List Nd} {L : List Int} {d : Nat} (h : lvN l (d + 1) L ≠ []) : ∃ i ∈ lvN l d L, kidsN l i ≠ [] := by
  refine Decidable.byContradiction fun hn => h ?_
  show (lvN l d L).flatMap (kidsN l) = []
  rw [List.flatMap_eq_nil_iff]
  intro i hi
  exact Decidable.byContradiction fun hk => hn ⟨i, hi, hk⟩
theorem lv_shorter {l : List Nd} {L : List Int} {d : Nat} (h : lvN l (d + 1) L ≠ []) : lvN l d L ≠ [] := by
  obtain ⟨i, hi, _⟩ := lv_down h
  exact List.ne_nil_of_mem hi
theorem vis_dirs {l : List Nd} (t : Tree l) (L : List Int) (d : Nat) : lvN l d L ≠ [] → d ≤ ((visN l d L).filter (isDir l)).length := by
  induction d with
  | zero => intro _; exact Nat.zero_le _
  | succ d ih =>
    intro h
    obtain ⟨i, hi, hk⟩ := lv_down h
    have h1 := ih (lv_shorter h)
    rw [vis_lv, List.filter_append, List.length_append]
    have h2 : 0 < ((lvN l d L).filter (isDir l)).length := List.length_pos_of_mem (List.mem_filter.2 ⟨hi, kids_dir t hk⟩)
    omega
theorem lv_end {l : List Nd} (t : Tree l) (d : Nat) (h : l.length < d) : lvN l d [1] = [] := by
  refine Decidable.byContradiction fun hn => ?_
  have h1 := vis_dirs t [1] d hn
  have h2 := len_sub _ _ (nodup_count _ (vis_once t d)) (fun x hx => dir_ino (List.mem_filter.1 hx).2)
  rw [List.length_map] at h2
  omega
theorem vis_end {l : List Nd} (t : Tree l) (j : Nat) : visN l (l.length + 1 + j) [1] = visN l (l.length + 1) [1] := by
  induction j with
  | zero => rfl
  | succ j ih => rw [← Nat.add_assoc, vis_lv, ih, lv_end t _ (by omega), List.append_nil]

/-! ### Each inode is on a level -/
theorem lv_add (l : List Nd) (a b : Nat) (L : List Int) : lvN l (a + b) L = lvN l b (lvN l a L) := by
  induction b with
  | zero => rfl
  | succ b ih => show (lvN l (a + b) L).flatMap _ = _; rw [ih]; rfl
theorem see_lv {l : List Nd} (P : Int → Prop) (s : List Int) (es : List Ent) (hs : ∀ i ∈ s, P i) (he : ∀ e ∈ es, P e.2) : ∀ i ∈ seeB s es, P i := see_has s es P hs he
theorem bfs_lv {l : List Nd} (k : Nat) : ∀ i ∈ bfsN l k, ∃ m, i ∈ lvN l m [1] := by
  induction k with
  | zero => intro i hi; exact ⟨0, hi⟩
  | succ k ih =>
    rcases Nat.lt_or_ge k (bfsN l k).length with h | h
    · rw [bfs_next h]
      refine see_has _ _ (fun i => ∃ m, i ∈ lvN l m [1]) ih ?_
      intro e he
      obtain ⟨m, hm⟩ := ih _ (List.getElem_mem h)
      exact ⟨m + 1, List.mem_flatMap.2 ⟨_, hm, List.mem_map.2 ⟨e, he, rfl⟩⟩⟩
    · rw [show bfsN l (k + 1) = bfsN l k from bfs_stop h 1]; exact ih
theorem sub_eq {s t : List Int} (hs : s.Nodup) (h : ∀ x ∈ s, x ∈ t) (hl : t.length ≤ s.length) : ∀ x ∈ t, x ∈ s := by
  intro x hx
  refine Decidable.byContradiction fun hn => ?_
  have := len_sub s (t.erase x) hs (fun y hy => (List.mem_erase_of_ne (fun e : y = x => hn (by rw [← e]; exact hy))).2 (h y hy))
  rw [List.length_erase_of_mem hx] at this
  have := List.length_pos_of_mem hx
  omega
theorem on_level {l : List Nd} (t : Tree l) {i : Int} (h : hasN l i = true) : ∃ m, m ≤ l.length ∧ i ∈ lvN l m [1] := by
  have h3 : thirdB l = true := List.all_eq_true.2 fun x hx => List.all_eq_true.2 fun e he => t.there x hx e he
  have hin : i ∈ bfsN l (l.length + 1) := by
    refine sub_eq (bfs_nodup _ _) (fun z hz => has_inos (bfs_has h3 t.root _ z hz)) (by rw [t.seen]; simp) i (has_inos h)
  obtain ⟨m, hm⟩ := bfs_lv _ i hin
  rcases Nat.lt_or_ge l.length m with h | h
  · rw [lv_end t m h] at hm; cases hm
  · exact ⟨m, h, hm⟩

/-! ### From whatever inode -/
theorem lv_append (l : List Nd) (d : Nat) (A B : List Int) : lvN l d (A ++ B) = lvN l d A ++ lvN l d B := by
  induction d with
  | zero => rfl
  | succ d ih => show (lvN l d (A ++ B)).flatMap _ = _; rw [ih, List.flatMap_append]; rfl
theorem lv_perm {l : List Nd} {A B : List Int} (d : Nat) (h : A.Perm B) : (lvN l d A).Perm (lvN l d B) := by
  induction d with
  | zero => exact h
  | succ d ih => exact ih.flatMap_right _
theorem vis_perm {l : List Nd} (d : Nat) : ∀ {A B : List Int}, A.Perm B → (visN l d A).Perm (visN l d B) := by
  induction d with
  | zero => intro A B _; exact List.Perm.refl _
  | succ d ih => intro A B h; exact h.append (ih (h.flatMap_right _))
theorem vis_add (l : List Nd) (a b : Nat) : ∀ L, visN l (a + b) L = visN l a L ++ visN l b (lvN l a L) := by
  induction a with
  | zero => intro L; rw [Nat.zero_add]; rfl
  | succ a ih =>
    intro L
    rw [show a + 1 + b = (a + b) + 1 from by omega]
    show L ++ visN l (a + b) (L.flatMap (kidsN l)) = (L ++ visN l a (L.flatMap (kidsN l))) ++ _
    rw [ih, List.append_assoc, lv_in]
theorem lv_end_any {l : List Nd} (t : Tree l) {i : Int} (h : hasN l i = true) (d : Nat) (hd : l.length < d) : lvN l d [i] = [] := by
  obtain ⟨m, _, hm⟩ := on_level t h
  have h1 := lv_perm (l := l) d (List.perm_cons_erase hm)
  rw [← lv_add, lv_end t _ (by omega)] at h1
  have h2 := h1.nil_eq
  rw [show i :: (lvN l m [1]).erase i = [i] ++ (lvN l m [1]).erase i from rfl, lv_append] at h2
  exact (List.append_eq_nil_iff.1 h2.symm).1
/-- What is come to from an inode is come to from Root. -/
theorem vis_from {l : List Nd} (t : Tree l) {i : Int} (h : hasN l i = true) (d : Nat) : ∃ C m, (visN l (m + d) [1]).Perm (visN l d [i] ++ C) := by
  obtain ⟨m, _, hm⟩ := on_level t h
  refine ⟨visN l m [1] ++ visN l d ((lvN l m [1]).erase i), m, ?_⟩
  rw [vis_add]
  have h1 := (vis_perm (l := l) d (List.perm_cons_erase hm)).trans (vis_append l d [i] ((lvN l m [1]).erase i))
  refine (List.Perm.append_left _ h1).trans ?_
  rw [← List.append_assoc, ← List.append_assoc]
  exact List.Perm.append_right _ List.perm_append_comm
theorem vis_once_any {l : List Nd} (t : Tree l) {i : Int} (h : hasN l i = true) (d : Nat) (j : Int) (hj : isDir l j = true) : (visN l d [i]).count j ≤ 1 := by
  obtain ⟨C, m, hp⟩ := vis_from t h d
  have h1 := vis_once t (m + d) j hj
  rw [hp.count_eq, List.count_append] at h1
  omega
theorem below_len {l : List Nd} (t : Tree l) (d : Nat) (i : Int) (p : List UInt8) : (belowN l d i p).length ≤ 1 + entsN l := by
  cases h : hasN l i
  · rw [below_no h]; simp
  · have h1 := (below_perm t.there d i p h).length_eq
    obtain ⟨C, m, hp⟩ := vis_from t h d
    have h2 := hp.length_eq
    have h3 := vis_len t (m + d)
    rw [List.length_map] at h1
    rw [List.length_append] at h2
    omega
/-- Deeper than there are inodes it doesn't go. -/
theorem below_stop {l : List Nd} (d : Nat) : ∀ i p, lvN l d [i] = [] → belowN l (d + 1) i p = belowN l d i p := by
  induction d with
  | zero => intro i p h; cases h
  | succ d ih =>
    intro i p h
    rw [lv_in] at h
    have e2 : [i].flatMap (kidsN l) = kidsN l i := by simp
    rw [e2] at h
    have hk : ∀ e ∈ (getN l i).ents, lvN l d [e.2] = [] := by
      intro e he
      have hm : e.2 ∈ kidsN l i := List.mem_map.2 ⟨e, he, rfl⟩
      have h1 := lv_perm (l := l) d (List.perm_cons_erase hm)
      rw [h] at h1
      have h2 := h1.nil_eq
      rw [show e.2 :: (kidsN l i).erase e.2 = [e.2] ++ (kidsN l i).erase e.2 from rfl, lv_append] at h2
      exact (List.append_eq_nil_iff.1 h2.symm).1
    show (if hasN l i = true then _ else _) = (if hasN l i = true then _ else _)
    split
    · congr 1
      have hcongr : ∀ es : List Ent, (∀ e ∈ es, lvN l d [e.2] = []) → es.flatMap (fun e => belowN l (d + 1) e.2 (underB p e.1)) = es.flatMap (fun e => belowN l d e.2 (underB p e.1)) := by
        intro es
        induction es with
        | nil => intro _; rfl
        | cons e r ih2 =>
          intro he
          rw [List.flatMap_cons, List.flatMap_cons, ih e.2 _ (he e (by simp)), ih2 fun x hx => he x (by simp [hx])]
      exact hcongr _ hk
    · rfl
theorem below_more {l : List Nd} (t : Tree l) (i : Int) (p : List UInt8) (j : Nat) : belowN l (l.length + 1 + j) i p = belowN l (l.length + 1) i p := by
  cases h : hasN l i
  · rw [below_no h, below_no h]
  · induction j with
    | zero => rfl
    | succ j ih => rw [← Nat.add_assoc, below_stop _ _ _ (lv_end_any t h _ (by omega)), ih]

/-! ### A directory has one path -/
theorem lv_vis {l : List Nd} {m d : Nat} {L : List Int} (h : m < d) : ∀ i ∈ lvN l m L, i ∈ visN l d L := by
  intro i hi
  obtain ⟨j, rfl⟩ : ∃ j, d = m + (j + 1) := ⟨d - m - 1, by omega⟩
  rw [vis_add]
  exact List.mem_append.2 (.inr (List.mem_append.2 (.inl hi)))
theorem dir_once {l : List Nd} (t : Tree l) {i : Int} (h : isDir l i = true) : ((listN l).map (·.2)).count i = 1 := by
  unfold listN
  rw [(below_perm t.there _ 1 [47] t.root).count_eq]
  have h1 := vis_once t (l.length + 1) i h
  have hh : hasN l i = true := by unfold isDir at h; rw [Bool.and_eq_true] at h; exact h.1
  obtain ⟨m, hm, hi⟩ := on_level t hh
  have h2 := List.count_pos_iff.2 (lv_vis (d := l.length + 1) (by omega) i hi)
  omega
theorem paths_len (l : List Nd) (i : Int) : (pathsN l i).length = ((listN l).map (·.2)).count i := by
  unfold pathsN
  rw [List.length_map, List.count, List.countP_map, List.countP_eq_length_filter]
  rfl
theorem dir_path {l : List Nd} (t : Tree l) {i : Int} (h : isDir l i = true) : (pathsN l i).length = 1 := by rw [paths_len, dir_once t h]
theorem no_path {l : List Nd} (t : Tree l) {i : Int} (h : hasN l i = false) : pathsN l i = [] := by
  have : (pathsN l i).length = 0 := by
    rw [paths_len]
    refine List.count_eq_zero_of_not_mem fun hm => ?_
    unfold listN at hm
    have := (below_perm t.there _ 1 [47] t.root).mem_iff.1 hm
    have hv : ∀ d, ∀ j ∈ visN l d [1], hasN l j = true := by
      intro d
      induction d with
      | zero => intro j hj; cases hj
      | succ d ih =>
        intro j hj
        rw [vis_lv] at hj
        rcases List.mem_append.1 hj with hj | hj
        · exact ih j hj
        · exact lv_has t d j hj
    rw [hv _ i this] at h
    cases h
  exact List.eq_nil_of_length_eq_zero this
end Go.Proofs.YtobepdmpacdakaaGreat

/- Paths as lists of bytes: their names, the text that parts make, plain paths. No program's function. -/
namespace Go.Proofs.YtobepdmpacdakaaGreat

def atomB (a : List UInt8) : List (List UInt8) := if a = [] then [] else [a]
/-- The names that are left to come, 'a' being what has come of the one at hand. -/
def namesA (a : List UInt8) : List UInt8 → List (List UInt8)
  | [] => atomB a
  | c :: r => if c = 47 then atomB a ++ namesA [] r else namesA (a ++ [c]) r
def namesB (l : List UInt8) : List (List UInt8) := namesA [] l

theorem atomB_nil : atomB [] = [] := rfl
theorem atomB_cons {a : List UInt8} (h : a ≠ []) : atomB a = [a] := if_neg h
theorem namesA_nil (a : List UInt8) : namesA a [] = atomB a := rfl
theorem namesA_slash (a r : List UInt8) : namesA a (47 :: r) = atomB a ++ namesA [] r := by simp [namesA]
theorem namesA_byte (a r : List UInt8) {c : UInt8} (h : c ≠ 47) : namesA a (c :: r) = namesA (a ++ [c]) r := by simp [namesA, h]
theorem namesA_run (x : List UInt8) : ∀ (a r : List UInt8), 47 ∉ x → namesA a (x ++ r) = namesA (a ++ x) r := by
  induction x with
  | nil => intro a r _; simp
  | cons c x ih =>
    intro a r h
    rw [List.cons_append, namesA_byte _ _ (fun e => h (by simp [e])), ih _ _ (fun e => h (by simp [e]))]
    simp
theorem namesB_found (x r : List UInt8) (h : 47 ∉ x) : namesB (x ++ 47 :: r) = atomB x ++ namesB r := by
  unfold namesB; rw [namesA_run _ _ _ h, List.nil_append, namesA_slash]
theorem namesB_none (x : List UInt8) (h : 47 ∉ x) : namesB x = atomB x := by
  have := namesA_run x [] [] h
  simpa [namesB, namesA_nil] using this
theorem namesB_nil : namesB [] = [] := rfl
theorem mem_atomB {a n : List UInt8} (h : n ∈ atomB a) : n = a ∧ a ≠ [] := by
  unfold atomB at h; split at h <;> simp_all
theorem namesA_good (l : List UInt8) : ∀ (a : List UInt8), 47 ∉ a → ∀ n ∈ namesA a l, 47 ∉ n ∧ n ≠ [] := by
  induction l with
  | nil => intro a ha n hn; obtain ⟨rfl, h⟩ := mem_atomB hn; exact ⟨ha, h⟩
  | cons c l ih =>
    intro a ha n hn
    by_cases hc : c = 47
    · subst hc
      rw [namesA_slash] at hn
      rcases List.mem_append.1 hn with h | h
      · obtain ⟨rfl, h⟩ := mem_atomB h; exact ⟨ha, h⟩
      · exact ih [] (by simp) n h
    · rw [namesA_byte _ _ hc] at hn
      exact ih _ (by simp [ha]; exact fun e => hc e.symm) n hn
def goodB (ns : List (List UInt8)) : Prop := ∀ n ∈ ns, 47 ∉ n ∧ n ≠ []
theorem namesB_good (l : List UInt8) : goodB (namesB l) := namesA_good l [] (by simp)
theorem atomB_len (a : List UInt8) : (atomB a).length ≤ a.length := by
  unfold atomB; split
  · simp
  · rename_i h; cases a with | nil => exact absurd rfl h | cons _ _ => simp
theorem namesA_count (l : List UInt8) : ∀ a, (namesA a l).length ≤ a.length + l.length := by
  induction l with
  | nil => intro a; exact atomB_len a
  | cons c l ih =>
    intro a
    by_cases hc : c = 47
    · subst hc
      rw [namesA_slash]
      have := ih []; have := atomB_len a
      simp at *; omega
    · rw [namesA_byte _ _ hc]
      have := ih (a ++ [c]); simp at *; omega
theorem namesB_count (l : List UInt8) : (namesB l).length ≤ l.length := by simpa [namesB] using namesA_count l []
theorem namesA_size (l : List UInt8) : ∀ a, ∀ n ∈ namesA a l, n.length ≤ a.length + l.length := by
  induction l with
  | nil => intro a n hn; obtain ⟨rfl, _⟩ := mem_atomB hn; simp
  | cons c l ih =>
    intro a n hn
    by_cases hc : c = 47
    · subst hc
      rw [namesA_slash] at hn
      rcases List.mem_append.1 hn with h | h
      · obtain ⟨rfl, _⟩ := mem_atomB h; simp
      · have := ih [] n h; simp at *; omega
    · rw [namesA_byte _ _ hc] at hn
      have := ih _ n hn; simp at *; omega
theorem namesB_size (l : List UInt8) : ∀ n ∈ namesB l, n.length ≤ l.length := by
  intro n hn; simpa using namesA_size l [] n hn
theorem namesA_some (l : List UInt8) : ∀ a, a ≠ [] → namesA a l ≠ [] := by
  induction l with
  | nil => intro a ha; rw [namesA_nil, atomB_cons ha]; simp
  | cons c l ih =>
    intro a ha
    by_cases hc : c = 47
    · subst hc; rw [namesA_slash, atomB_cons ha]; simp
    · rw [namesA_byte _ _ hc]; exact ih _ (by simp)

def absB (l : List UInt8) : Bool := l.head? == some 47
def endB (l : List UInt8) : Bool := l.getLast? == some 47
def slashB (l : List UInt8) : Bool := !(namesB l).isEmpty && endB l
theorem namesB_none_abs {l : List UInt8} (h : namesB l = []) : absB l = !l.isEmpty := by
  cases l with
  | nil => rfl
  | cons c r =>
    by_cases hc : c = 47
    · subst hc; rfl
    · unfold namesB at h; rw [namesA_byte _ _ hc] at h; exact absurd h (namesA_some _ _ (by simp))
def baseB (l : List UInt8) : List UInt8 := ((namesB l).getLast?).getD (if absB l then [47] else [])
theorem baseB_some {l : List UInt8} {ns : List (List UInt8)} {n : List UInt8} (h : namesB l = ns ++ [n]) : baseB l = n := by simp [baseB, h]
theorem baseB_none {l : List UInt8} (h : namesB l = []) : baseB l = if absB l then [47] else [] := by simp [baseB, h]

/-- The text of names, a slash ahead of each. -/
def tailB : List (List UInt8) → List UInt8
  | [] => []
  | n :: r => 47 :: (n ++ tailB r)
def interB : List (List UInt8) → List UInt8
  | [] => []
  | n :: r => n ++ tailB r
def putB (a : Bool) (ns : List (List UInt8)) (s : Bool) : List UInt8 := (if a then [47] else []) ++ interB ns ++ (if s && !ns.isEmpty then [47] else [])
def joinB (ns : List (List UInt8)) : List UInt8 := 47 :: interB ns
theorem joinB_put (ns : List (List UInt8)) : putB true ns false = joinB ns := by simp [putB, joinB]
theorem tailB_append (a b : List (List UInt8)) : tailB (a ++ b) = tailB a ++ tailB b := by
  induction a with
  | nil => rfl
  | cons n a ih => simp [tailB, ih]
theorem joinB_tail {ns : List (List UInt8)} (h : ns ≠ []) : joinB ns = tailB ns := by
  cases ns with
  | nil => exact absurd rfl h
  | cons n r => rfl
theorem interB_snoc (ns : List (List UInt8)) (n : List UInt8) : interB (ns ++ [n]) = if ns.isEmpty then n else interB ns ++ 47 :: n := by
  cases ns with
  | nil => simp [interB, tailB]
  | cons m r => simp [interB, tailB_append, tailB]
theorem tailB_snoc (ns : List (List UInt8)) (n : List UInt8) : tailB (ns ++ [n]) = tailB ns ++ 47 :: n := by simp [tailB_append, tailB]
theorem tailB_len (ns : List (List UInt8)) (b : Nat) (h : ∀ n ∈ ns, n.length ≤ b) : (tailB ns).length ≤ ns.length * (b + 1) := by
  induction ns with
  | nil => simp [tailB]
  | cons n r ih =>
    have h1 := ih (fun n hn => h n (by simp [hn])); have h2 := h n (by simp)
    simp only [tailB, List.length_cons, List.length_append, Nat.succ_mul, Nat.add_mul, Nat.one_mul] at *
    omega
theorem interB_len_tail (ns : List (List UInt8)) : (interB ns).length ≤ (tailB ns).length := by
  cases ns <;> simp [interB, tailB]
theorem interB_take (ns : List (List UInt8)) (k : Nat) : (interB (ns.take k)).length ≤ (interB ns).length := by
  cases ns with
  | nil => simp
  | cons n r =>
    cases k with
    | zero => simp [interB]
    | succ k =>
      have : tailB r = tailB (r.take k) ++ tailB (r.drop k) := by rw [← tailB_append, List.take_append_drop]
      simp [interB, this]
theorem tailB_take (ns : List (List UInt8)) (k : Nat) : (tailB (ns.take k)).length ≤ (tailB ns).length := by
  have : tailB ns = tailB (ns.take k) ++ tailB (ns.drop k) := by rw [← tailB_append, List.take_append_drop]
  rw [this]; simp

theorem namesA_total (l : List UInt8) : ∀ a, (tailB (namesA a l)).length ≤ a.length + l.length + 1 := by
  have one : ∀ a : List UInt8, (tailB (atomB a)).length ≤ a.length + 1 := by
    intro a; unfold atomB; split
    · simp [tailB]
    · simp [tailB]
  induction l with
  | nil => intro a; simpa [namesA_nil] using one a
  | cons c l ih =>
    intro a
    by_cases hc : c = 47
    · subst hc
      rw [namesA_slash, tailB_append, List.length_append]
      have := ih []; have := one a
      simp at *; omega
    · rw [namesA_byte _ _ hc]
      have := ih (a ++ [c]); simp at *; omega
theorem namesB_total (l : List UInt8) : (interB (namesB l)).length ≤ l.length + 1 := by
  have h1 := interB_len_tail (namesB l); have h2 := namesA_total l []
  simp [namesB] at *; omega
theorem namesA_tail_more (ns : List (List UInt8)) (r : List UInt8) : ∀ a, goodB ns → namesA a (tailB ns ++ 47 :: r) = atomB a ++ ns ++ namesB r := by
  induction ns with
  | nil => intro a _; simp [tailB, namesA_slash, namesB]
  | cons n ns ih =>
    intro a h
    obtain ⟨h1, h2⟩ := h n (by simp)
    have := ih n (fun m hm => h m (by simp [hm]))
    rw [show tailB (n :: ns) ++ 47 :: r = 47 :: (n ++ (tailB ns ++ 47 :: r)) from by simp [tailB], namesA_slash, namesA_run _ _ _ h1, List.nil_append, this, atomB_cons h2]
    simp
theorem namesA_tail (ns : List (List UInt8)) : ∀ a, goodB ns → namesA a (tailB ns) = atomB a ++ ns := by
  induction ns with
  | nil => intro a _; simp [tailB, namesA_nil]
  | cons n ns ih =>
    intro a h
    obtain ⟨h1, h2⟩ := h n (by simp)
    have := ih n (fun m hm => h m (by simp [hm]))
    rw [tailB, namesA_slash, namesA_run _ _ _ h1, List.nil_append, this, atomB_cons h2]
    simp
theorem namesB_inter (ns : List (List UInt8)) (h : goodB ns) : namesB (interB ns) = ns := by
  cases ns with
  | nil => rfl
  | cons n r =>
    obtain ⟨h1, h2⟩ := h n (by simp)
    unfold namesB interB
    rw [namesA_run _ _ _ h1, List.nil_append, namesA_tail _ _ (fun m hm => h m (by simp [hm])), atomB_cons h2]; rfl
theorem namesB_inter_more (ns : List (List UInt8)) (r : List UInt8) (h : goodB ns) : namesB (interB ns ++ 47 :: r) = ns ++ namesB r := by
  cases ns with
  | nil => simp [interB, namesB, namesA_slash, atomB]
  | cons n ns =>
    obtain ⟨h1, h2⟩ := h n (by simp)
    unfold namesB interB
    rw [List.append_assoc, namesA_run _ _ _ h1, List.nil_append, namesA_tail_more _ _ _ (fun m hm => h m (by simp [hm])), atomB_cons h2]; rfl
theorem namesB_slash (l : List UInt8) : namesB (47 :: l) = namesB l := by simp [namesB, namesA_slash, atomB]
theorem namesB_join (ns : List (List UInt8)) (h : goodB ns) : namesB (joinB ns) = ns := by rw [joinB, namesB_slash, namesB_inter _ h]
theorem namesB_put (a s : Bool) (ns : List (List UInt8)) (h : goodB ns) : namesB (putB a ns s) = ns := by
  have key : ∀ post : List UInt8, (post = [] ∨ post = [47]) → namesB (interB ns ++ post) = ns := by
    rintro post (rfl | rfl)
    · rw [List.append_nil, namesB_inter _ h]
    · rw [namesB_inter_more _ _ h, namesB_nil, List.append_nil]
  unfold putB
  have hp : (if (s && !ns.isEmpty) = true then [47] else ([] : List UInt8)) = [] ∨ (if (s && !ns.isEmpty) = true then [47] else ([] : List UInt8)) = [47] := by split <;> simp
  cases a
  · simpa using key _ hp
  · rw [if_pos rfl, List.append_assoc, List.singleton_append, namesB_slash]; exact key _ hp
theorem absB_put (a s : Bool) (ns : List (List UInt8)) (h : goodB ns) : absB (putB a ns s) = a := by
  cases a
  · cases ns with
    | nil => simp [putB, interB, absB]
    | cons n r =>
      obtain ⟨h1, h2⟩ := h n (by simp)
      cases n with
      | nil => exact absurd rfl h2
      | cons c n =>
        have : c ≠ 47 := fun e => h1 (by simp [e])
        simp [putB, interB, absB, this]
  · simp [putB, absB]
theorem last_app (a b : List UInt8) (h : b ≠ []) : (a ++ b).getLast? = b.getLast? := by
  rw [List.getLast?_append]; cases hb : b.getLast? <;> simp_all
theorem tailB_last (ns : List (List UInt8)) : goodB ns → ∀ a : List UInt8, a ≠ [] → 47 ∉ a → ∃ c, (a ++ tailB ns).getLast? = some c ∧ c ≠ 47 := by
  induction ns with
  | nil =>
    intro _ a h1 h2
    refine ⟨a.getLast h1, by rw [tailB, List.append_nil, List.getLast?_eq_some_getLast h1], fun e => h2 ?_⟩
    rw [← e]; exact List.getLast_mem h1
  | cons n ns ih =>
    intro h a _ _
    obtain ⟨h1, h2⟩ := h n (by simp)
    obtain ⟨c, hc, hn⟩ := ih (fun m hm => h m (by simp [hm])) n h2 h1
    refine ⟨c, ?_, hn⟩
    have hne : n ++ tailB ns ≠ [] := by simp [h2]
    rw [tailB, show a ++ 47 :: (n ++ tailB ns) = (a ++ [47]) ++ (n ++ tailB ns) from by simp, last_app _ _ hne]
    exact hc
theorem endB_put (a s : Bool) (ns : List (List UInt8)) (h : goodB ns) (hn : ns ≠ []) : endB (putB a ns s) = s := by
  cases ns with
  | nil => exact absurd rfl hn
  | cons n r =>
    obtain ⟨h1, h2⟩ := h n (by simp)
    cases s
    · obtain ⟨c, hc, hne⟩ := tailB_last r (fun m hm => h m (by simp [hm])) n h2 h1
      have hne' : n ++ tailB r ≠ [] := by simp [h2]
      simp only [endB, putB, interB, Bool.false_and, Bool.false_eq_true, if_false, List.append_nil]
      rw [last_app _ _ hne', hc]
      simp [hne]
    · simp [endB, putB]
theorem slashB_put (a s : Bool) (ns : List (List UInt8)) (h : goodB ns) : slashB (putB a ns s) = (s && !ns.isEmpty) := by
  unfold slashB
  rw [namesB_put _ _ _ h]
  cases ns with
  | nil => simp
  | cons n r => rw [endB_put _ _ _ h (by simp)]; simp
theorem slashB_eq (l : List UInt8) : (slashB l && !(namesB l).isEmpty) = slashB l := by
  unfold slashB; cases (namesB l).isEmpty <;> simp

theorem mayB_good {n : List UInt8} (h : mayB n = true) : 47 ∉ n ∧ n ≠ [] := by
  simp [mayB] at h; exact ⟨h.1.2, h.1.1.1.1.1⟩
theorem mayB_all {ns : List (List UInt8)} (h : ns.all mayB = true) : goodB ns := fun n hn => mayB_good (List.all_eq_true.1 h n hn)
def longB (l : List UInt8) : Bool := decide (4095 < l.length) || (namesB l).any fun n => decide (255 < n.length)
def plainB (l : List UInt8) : Option (List (List UInt8)) := if (namesB l).all mayB && joinB (namesB l) == l then some (namesB l) else none
theorem plainB_bad {l : List UInt8} {k : Nat} (h : k < (namesB l).length) (hm : mayB (namesB l)[k] = false) : plainB l = none := by
  unfold plainB
  rw [if_neg]
  intro e
  simp only [Bool.and_eq_true, List.all_eq_true] at e
  rw [e.1 _ (List.getElem_mem h)] at hm
  exact absurd hm (by simp)
theorem plainB_ok {l : List UInt8} (h : ∀ n ∈ namesB l, mayB n = true) : plainB l = if joinB (namesB l) == l then some (namesB l) else none := by
  unfold plainB
  rw [List.all_eq_true.2 h, Bool.true_and]
theorem plainB_yes {l : List UInt8} {ns : List (List UInt8)} (h : plainB l = some ns) : joinB ns = l ∧ goodB ns ∧ namesB l = ns := by
  unfold plainB at h
  split at h
  · rename_i hc
    simp only [Bool.and_eq_true, beq_iff_eq] at hc
    cases h
    exact ⟨hc.2, namesB_good _, rfl⟩
  · cases h
theorem plainB_join {ns : List (List UInt8)} (h : ns.all mayB = true) : plainB (joinB ns) = some ns := by
  unfold plainB
  rw [namesB_join _ (mayB_all h), h]; simp

/-- As the program asks it. -/
def liesB (p q : List UInt8) : Bool := (p == q) || (q == [47]) || (q ++ [47]).isPrefixOf p
theorem joinB_inj {a b : List (List UInt8)} (ha : goodB a) (hb : goodB b) (h : joinB a = joinB b) : a = b := by
  rw [← namesB_join a ha, h, namesB_join b hb]
theorem under_more (a c : List (List UInt8)) : liesB (joinB (a ++ c)) (joinB a) = true := by
  unfold liesB
  by_cases hc : c = []
  · subst hc; simp
  · by_cases ha : a = []
    · subst ha; simp [joinB, interB]
    · have : (joinB a ++ [47]).isPrefixOf (joinB (a ++ c)) = true := by
        rw [List.isPrefixOf_iff_prefix, joinB_tail ha, joinB_tail (by simp [ha]), tailB_append]
        cases c with
        | nil => exact absurd rfl hc
        | cons n r => exact ⟨n ++ tailB r, by simp [tailB]⟩
      rw [this]; simp
theorem under_prefix {a b : List (List UInt8)} (ha : goodB a) (hb : goodB b) : liesB (joinB a) (joinB b) = b.isPrefixOf a := by
  rw [Bool.eq_iff_iff]
  constructor
  · intro h
    simp only [liesB, Bool.or_eq_true, beq_iff_eq] at h
    rw [List.isPrefixOf_iff_prefix]
    rcases h with (h | h) | h
    · rw [joinB_inj ha hb h]; exact List.prefix_refl _
    · have := namesB_join b hb
      rw [h] at this
      rw [← this]; simp [namesB, namesA, atomB]
    · rw [List.isPrefixOf_iff_prefix] at h
      obtain ⟨r, hr⟩ := h
      have h1 := namesB_join a ha
      rw [← hr, List.append_assoc, List.singleton_append, joinB, List.cons_append, namesB_slash, namesB_inter_more _ _ hb] at h1
      exact ⟨_, h1⟩
  · intro h
    rw [List.isPrefixOf_iff_prefix] at h
    obtain ⟨c, rfl⟩ := h
    exact under_more b c
theorem under_back (a c : List (List UInt8)) (ha : goodB a) (hc : goodB c) : liesB (joinB a) (joinB (a ++ c)) = decide (a.length = (a ++ c).length) := by
  rw [under_prefix ha (fun n hn => (List.mem_append.1 hn).elim (ha n) (hc n)), Bool.eq_iff_iff, List.isPrefixOf_iff_prefix, decide_eq_true_eq]
  constructor
  · intro h; have := h.length_le; rw [List.length_append] at this ⊢; omega
  · intro h
    have : c = [] := List.eq_nil_of_length_eq_zero (by rw [List.length_append] at h; omega)
    subst this; simp
theorem under_root (p : List UInt8) : liesB p [47] = true := by simp [liesB]
end Go.Proofs.YtobepdmpacdakaaGreat

/- The walk's paths: plain, no two alike, each behind that of its directory. No program's function. -/
namespace Go.Proofs.YtobepdmpacdakaaGreat

theorem under_join {ns : List (List UInt8)} (h : goodB ns) (n : List UInt8) : underB (joinB ns) n = joinB (ns ++ [n]) := by
  cases hn : ns with
  | nil =>
    unfold underB
    rw [if_pos (show joinB [] = [47] from rfl)]; simp [joinB, interB, tailB]
  | cons a r =>
    rw [← hn]
    have hne : ns ≠ [] := by rw [hn]; simp
    have h1 : joinB ns ≠ [47] := by
      have ha := (h a (by rw [hn]; simp)).2
      intro e
      rw [joinB_tail hne, hn] at e
      simp [tailB] at e
      exact ha e.1
    unfold underB
    rw [if_neg h1, joinB_tail hne, joinB_tail (by simp), tailB_snoc]
    simp
/-- The walk, by names. -/
def treeN (l : List Nd) : Nat → Int → List (List UInt8) → List (List (List UInt8) × Int)
  | 0, _, _ => []
  | d + 1, i, ns => if hasN l i = true then (ns, i) :: (getN l i).ents.flatMap (fun e => treeN l d e.2 (ns ++ [e.1])) else []
theorem may_ents {l : List Nd} (t : Tree l) {i : Int} : ∀ e ∈ (getN l i).ents, mayB e.1 = true := by
  intro e he
  cases hh : hasN l i
  · rw [getN_none hh] at he; cases he
  · have hm := (get_mem hh).1
    have hk : (getN l i).kind = 2 := Decidable.byContradiction fun hk => by rw [t.files _ hm hk] at he; cases he
    have := ((rightB_iff _).1 (t.rights _ hm hk)).1 e he
    unfold goodE at this
    rw [Bool.and_eq_true] at this
    exact this.1
theorem good_snoc {ns : List (List UInt8)} {n : List UInt8} (h : goodB ns) (hn : mayB n = true) : goodB (ns ++ [n]) := by
  intro m hm
  rcases List.mem_append.1 hm with hm | hm
  · exact h m hm
  · rw [List.mem_singleton.1 hm]; exact mayB_good hn
theorem below_tree {l : List Nd} (t : Tree l) (d : Nat) : ∀ i ns, goodB ns → belowN l d i (joinB ns) = (treeN l d i ns).map (fun q => (joinB q.1, q.2)) := by
  induction d with
  | zero => intro i ns _; rfl
  | succ d ih =>
    intro i ns h
    show (if hasN l i = true then _ else _) = (if hasN l i = true then _ else _ : List _).map _
    split
    · rw [List.map_cons, List.map_flatMap]
      congr 1
      have hm := may_ents t (i := i)
      revert hm
      induction (getN l i).ents with
      | nil => intro _; rfl
      | cons e r ih2 =>
        intro hm
        rw [List.flatMap_cons, List.flatMap_cons, ih2 fun x hx => hm x (by simp [hx]), under_join h, ih _ _ (good_snoc h (hm e (by simp)))]
    · rfl
theorem tree_may {l : List Nd} (t : Tree l) (d : Nat) : ∀ i ns, ns.all mayB = true → ∀ q ∈ treeN l d i ns, q.1.all mayB = true := by
  induction d with
  | zero => intro i ns _ q hq; cases hq
  | succ d ih =>
    intro i ns h q hq
    unfold treeN at hq
    split at hq
    · rcases List.mem_cons.1 hq with rfl | hq
      · exact h
      · obtain ⟨e, he, hq⟩ := List.mem_flatMap.1 hq
        exact ih _ _ (by rw [List.all_append, h]; simp [may_ents t e he]) q hq
    · cases hq
theorem tree_prefix (l : List Nd) (d : Nat) : ∀ i ns, ∀ q ∈ treeN l d i ns, ns <+: q.1 := by
  induction d with
  | zero => intro i ns q hq; cases hq
  | succ d ih =>
    intro i ns q hq
    unfold treeN at hq
    split at hq
    · rcases List.mem_cons.1 hq with rfl | hq
      · exact List.prefix_rfl
      · obtain ⟨e, he, hq⟩ := List.mem_flatMap.1 hq
        exact (List.prefix_append _ _).trans (ih _ _ q hq)
    · cases hq
theorem right_pair {es : List Ent} (h : rightP es) : es.Pairwise (fun a b => a.1 ≠ b.1) := h.2.imp fun h => lt_ne h
theorem ents_pair {l : List Nd} (t : Tree l) (i : Int) : (getN l i).ents.Pairwise (fun a b => a.1 ≠ b.1) := by
  cases hh : hasN l i
  · rw [getN_none hh]; exact List.Pairwise.nil
  · have hm := (get_mem hh).1
    by_cases hk : (getN l i).kind = 2
    · exact right_pair ((rightB_iff _).1 (t.rights _ hm hk))
    · rw [t.files _ hm hk]; exact List.Pairwise.nil
/-- No two paths are alike. -/
theorem tree_nodup {l : List Nd} (t : Tree l) (d : Nat) : ∀ i ns, ((treeN l d i ns).map (·.1)).Nodup := by
  induction d with
  | zero => intro i ns; exact List.Pairwise.nil
  | succ d ih =>
    intro i ns
    unfold treeN
    split
    · rw [List.map_cons, List.map_flatMap, List.nodup_cons]
      constructor
      · intro hm
        obtain ⟨e, he, hq⟩ := List.mem_flatMap.1 hm
        obtain ⟨q, hq, hq2⟩ := List.mem_map.1 hq
        have h1 := (tree_prefix l d _ _ q hq).length_le
        have h2 : q.1 = ns := hq2
        rw [h2, List.length_append, List.length_singleton] at h1
        omega
      · have hp := ents_pair t i
        revert hp
        induction (getN l i).ents with
        | nil => intro _; exact List.Pairwise.nil
        | cons e r ih2 =>
          intro hp
          obtain ⟨h1, h2⟩ := List.pairwise_cons.1 hp
          rw [List.flatMap_cons]
          refine List.nodup_append.2 ⟨ih _ _, ih2 h2, ?_⟩
          intro a ha b hb hab
          subst hab
          obtain ⟨q, hq, rfl⟩ := List.mem_map.1 ha
          obtain ⟨e2, he2, hb⟩ := List.mem_flatMap.1 hb
          obtain ⟨q2, hq2, hqq⟩ := List.mem_map.1 hb
          obtain ⟨s1, hs1⟩ := tree_prefix l d _ _ q hq
          obtain ⟨s2, hs2⟩ := tree_prefix l d _ _ q2 hq2
          have : ns ++ [e.1] ++ s1 = ns ++ [e2.1] ++ s2 := by rw [hs1, hs2, hqq]
          simp at this
          exact h1 e2 he2 this.1
    · exact List.Pairwise.nil
/-- Behind its directory, whose entry it is. -/
def Parent (l : List Nd) (A : List (List (List UInt8) × Int)) (q : List (List UInt8) × Int) : Prop := ∃ pn nm dir, q.1 = pn ++ [nm] ∧ (pn, dir) ∈ A ∧ (nm, q.2) ∈ (getN l dir).ents
theorem Parent.mono {l : List Nd} {A B : List (List (List UInt8) × Int)} {q : List (List UInt8) × Int} (h : Parent l A q) (hs : ∀ x ∈ A, x ∈ B) : Parent l B q := by
  obtain ⟨pn, nm, dir, h1, h2, h3⟩ := h
  exact ⟨pn, nm, dir, h1, hs _ h2, h3⟩
theorem tree_head {l : List Nd} {d : Nat} {i : Int} {ns : List (List UInt8)} {q : List (List UInt8) × Int} {B : List (List (List UInt8) × Int)} (h : treeN l d i ns = q :: B) : q = (ns, i) := by
  cases d with
  | zero => cases h
  | succ d =>
    unfold treeN at h
    split at h
    · exact (List.cons.inj h).1.symm
    · cases h
theorem tree_parent (l : List Nd) (d : Nat) : ∀ i ns A q B, treeN l d i ns = A ++ q :: B → A ≠ [] → Parent l A q := by
  induction d with
  | zero => intro i ns A q B h; cases A <;> cases h
  | succ d ih =>
    intro i ns A q B h hA
    unfold treeN at h
    split at h
    · cases A with
      | nil => exact absurd rfl hA
      | cons x A =>
        obtain ⟨h1, h2⟩ := List.cons.inj h
        subst h1
        have key : ∀ (es : List Ent), (∀ e ∈ es, e ∈ (getN l i).ents) → ∀ A B, es.flatMap (fun e => treeN l d e.2 (ns ++ [e.1])) = A ++ q :: B → Parent l ((ns, i) :: A) q := by
          intro es
          induction es with
          | nil => intro _ A B h; cases A <;> cases h
          | cons e r ih2 =>
            intro hm A B h
            rw [List.flatMap_cons] at h
            rcases List.append_eq_append_iff.1 h with ⟨C, hC1, hC2⟩ | ⟨C, hC1, hC2⟩
            · subst hC1
              refine (ih2 (fun x hx => hm x (by simp [hx])) C B hC2).mono ?_
              intro x hx
              rcases List.mem_cons.1 hx with rfl | hx
              · simp
              · simp [hx]
            · cases C with
              | nil =>
                rw [List.append_nil] at hC1
                rw [List.nil_append] at hC2
                refine (ih2 (fun x hx => hm x (by simp [hx])) [] B (by rw [List.nil_append]; exact hC2.symm)).mono ?_
                intro x hx
                simp at hx
                simp [hx]
              | cons y C =>
                obtain ⟨h3, h4⟩ := List.cons.inj hC2
                subst h3
                cases A with
                | nil =>
                  have := tree_head (l := l) (d := d) (i := e.2) (ns := ns ++ [e.1]) hC1
                  subst this
                  exact ⟨ns, e.1, i, rfl, by simp, hm e (by simp)⟩
                | cons z A =>
                  refine (ih _ _ (z :: A) q C hC1 (by simp)).mono ?_
                  intro x hx
                  exact List.mem_cons_of_mem _ hx
        exact key _ (fun _ h => h) A B h2
    · cases A <;> cases h
end Go.Proofs.YtobepdmpacdakaaGreat

/- The walk of a sound file system: how many, in which order; its paths' lengths. No program's function. -/
namespace Go.Proofs.YtobepdmpacdakaaGreat

theorem inos_nodup {l : List Nd} (t : Tree l) : (l.map (·.ino)).Nodup := by
  rw [List.nodup_iff_pairwise_ne, List.pairwise_map]
  exact t.rise.imp fun h => by omega
theorem kids_len0 {l : List Nd} (t : Tree l) {i : Int} (h : isDir l i = false) : (kidsN l i).length = 0 := by
  have : kidsN l i = [] := Decidable.byContradiction fun hk => by rw [kids_dir t hk] at h; cases h
  rw [this]; rfl
theorem list_exact {l : List Nd} (t : Tree l) : (listN l).length = 1 + entsN l := by
  refine Nat.le_antisymm (list_len t _ _) ?_
  have h0 := (below_perm t.there (l.length + 1) 1 [47] t.root).length_eq
  rw [List.length_map] at h0
  unfold listN
  rw [h0, ← vis_end t 1, show l.length + 1 + 1 = (l.length + 1) + 1 from rfl, vis_out, List.length_append, len_flat]
  have h1 : entsN l ≤ ((visN l (l.length + 1) [1]).map (fun i => (kidsN l i).length)).sum := by
    unfold entsN
    rw [← kids_sum t (fun es => es.length), sum_filter _ (visN l (l.length + 1) [1]) (isDir l) (fun i _ hi => kids_len0 t hi)]
    have e : ((l.map (·.ino)).map (fun i => (getN l i).ents.length)).sum = (((l.map (·.ino)).filter (isDir l)).map (fun i => (kidsN l i).length)).sum := by
      rw [← sum_filter (fun i => (kidsN l i).length) (l.map (·.ino)) (isDir l) (fun i _ hi => kids_len0 t hi)]
      simp [kidsN]
    rw [e]
    refine sum_sub _ _ _ ((inos_nodup t).filter _) ?_
    intro i hi
    have hd := (List.mem_filter.1 hi).2
    have hh : hasN l i = true := by unfold isDir at hd; rw [Bool.and_eq_true] at hd; exact hd.1
    obtain ⟨m, hm, hl⟩ := on_level t hh
    exact List.mem_filter.2 ⟨lv_vis (by omega) i hl, hd⟩
  simp only [List.length_singleton]; omega
theorem list_tree {l : List Nd} (t : Tree l) : listN l = (treeN l (l.length + 1) 1 []).map (fun q => (joinB q.1, q.2)) := below_tree t _ 1 [] (fun n hn => nomatch hn)
theorem list_head {l : List Nd} (t : Tree l) : ∃ r, listN l = ([47], 1) :: r := by
  unfold listN
  refine ⟨_, show (if hasN l 1 = true then _ else _) = _ from by rw [if_pos t.root]⟩
theorem list_may {l : List Nd} (t : Tree l) {i : Nat} (h : i < (listN l).length) : ∃ ns, ns.all mayB = true ∧ (listN l)[i].1 = joinB ns := by
  have hm := List.getElem_mem h
  have e := list_tree t
  generalize (listN l)[i] = q at *
  rw [e] at hm
  obtain ⟨z, hz, rfl⟩ := List.mem_map.1 hm
  exact ⟨z.1, tree_may t _ _ _ rfl z hz, rfl⟩
theorem split_at {α : Type} {L : List α} {i : Nat} (h : i < L.length) : L = L.take i ++ L[i] :: L.drop (i + 1) := by rw [← List.drop_eq_getElem_cons h, List.take_append_drop]
theorem order_at {l : List Nd} (t : Tree l) {i : Nat} (h0 : 0 < i) (h : i < (listN l).length) : ∃ pn nm dir k, ∃ hk : k < i, (pn ++ [nm]).all mayB = true ∧ (listN l)[i].1 = joinB (pn ++ [nm]) ∧ (listN l)[k]'(by omega) = (joinB pn, dir) ∧ (nm, (listN l)[i].2) ∈ (getN l dir).ents := by
  have e := list_tree t
  have hT : i < (treeN l (l.length + 1) 1 []).length := by rw [e, List.length_map] at h; exact h
  have hL : ∀ k (hk : k < (listN l).length) (hk2 : k < (treeN l (l.length + 1) 1 []).length), (listN l)[k] = (joinB (treeN l (l.length + 1) 1 [])[k].1, (treeN l (l.length + 1) 1 [])[k].2) := by
    intro k hk hk2
    simp only [e, List.getElem_map]
  have hmay := tree_may t (l.length + 1) 1 [] rfl _ (List.getElem_mem hT)
  obtain ⟨pn, nm, dir, h1, h2, h3⟩ := tree_parent l (l.length + 1) 1 [] _ _ _ (split_at hT) (by
    intro hn
    have := congrArg List.length hn
    rw [List.length_take, List.length_nil] at this
    omega)
  obtain ⟨k, hk, hk2⟩ := List.getElem_of_mem h2
  have hki : k < i := by simp at hk; omega
  rw [List.getElem_take] at hk2
  refine ⟨pn, nm, dir, k, hki, by rw [← h1]; exact hmay, ?_, ?_, ?_⟩
  · rw [hL i h hT, h1]
  · rw [hL k (by omega) (by omega), hk2]
  · rw [hL i h hT]; exact h3
theorem order_ne {l : List Nd} (t : Tree l) {i k : Nat} (hk : k < i) (h : i < (listN l).length) : ((listN l)[k]'(by omega)).1 ≠ (listN l)[i].1 := by
  have e := list_tree t
  have hT : i < (treeN l (l.length + 1) 1 []).length := by rw [e, List.length_map] at h; exact h
  have hn := tree_nodup t (l.length + 1) 1 []
  have hg : ∀ k (hk : k < (treeN l (l.length + 1) 1 []).length), goodB (treeN l (l.length + 1) 1 [])[k].1 := fun k hk => mayB_all (tree_may t _ _ _ rfl _ (List.getElem_mem hk))
  simp only [e, List.getElem_map]
  intro he
  have := joinB_inj (hg k (by omega)) (hg i hT) he
  have h2 := (List.pairwise_iff_getElem.1 (List.nodup_iff_pairwise_ne.1 hn)) k i (by simp; omega) (by simp; omega) hk
  simp only [List.getElem_map] at h2
  exact h2 this
theorem below_paths {l : List Nd} (hs : ∀ x ∈ l, shortP 300 x.ents) (d : Nat) : ∀ i p, ∀ q ∈ belowN l d i p, q.1.length ≤ p.length + d * 301 := by
  induction d with
  | zero => intro i p q hq; cases hq
  | succ d ih =>
    intro i p q hq
    unfold belowN at hq
    split at hq
    · rename_i hh
      rcases List.mem_cons.1 hq with rfl | hq
      · simp
      · obtain ⟨e, he, hq⟩ := List.mem_flatMap.1 hq
        have h1 := ih _ _ q hq
        have h2 := under_len p e.1
        have h3 := hs _ (get_mem hh).1 e he
        omega
    · cases hq
theorem ents_next {l : List Nd} {k : Nat} (h : k < l.length) : entsN (l.take (k + 1)) = entsN (l.take k) + l[k].ents.length := by
  unfold entsN
  rw [List.take_succ_eq_append_getElem h, List.map_append, List.sum_append]
  simp
theorem ents_take (l : List Nd) (k : Nat) : entsN (l.take k) ≤ entsN l := by
  have e : entsN l = entsN (l.take k) + entsN (l.drop k) := by
    unfold entsN
    rw [← List.sum_append, ← List.map_append, List.take_append_drop]
  omega
theorem few_ents {l : List Nd} (h : fewN l = true) : entsN l ≤ 1600 ∧ l.length ≤ 40 ∧ ∀ x ∈ l, shortP 300 x.ents := by
  have hsm := fewN_small h
  unfold fewN at h
  rw [Bool.and_eq_true, List.all_eq_true] at h
  have hx : ∀ x ∈ l, x.ents.length ≤ 40 ∧ shortP 300 x.ents := by
    intro x hx
    have := h.2 x hx
    unfold fewX at this
    simp only [Bool.and_eq_true, decide_eq_true_eq, List.all_eq_true] at this
    exact ⟨this.1.2, this.2⟩
  refine ⟨?_, hsm.1, fun x hm => (hx x hm).2⟩
  have key : ∀ r : List Nd, (∀ x ∈ r, x.ents.length ≤ 40) → entsN r ≤ r.length * 40 := by
    intro r
    induction r with
    | nil => intro _; simp [entsN]
    | cons x r ih =>
      intro hr
      have h1 := ih fun y hy => hr y (by simp [hy])
      have h2 := hr x (by simp)
      simp only [entsN, List.map_cons, List.sum_cons, List.length_cons] at h1 ⊢
      omega
  have h1 := key l fun x hm => (hx x hm).1
  have h2 := hsm.1
  omega
end Go.Proofs.YtobepdmpacdakaaGreat

/- Where plain paths lead, as lists. No program's function. -/
namespace Go.Proofs.YtobepdmpacdakaaGreat

/-- A place: the directory, the name, the inode. -/
structure Sp where
  dir : Int
  name : List UInt8
  ino : Int
deriving DecidableEq
abbrev zeroS : Sp := ⟨0, [], 0⟩
abbrev rootS : Sp := ⟨0, [], 1⟩
def stepS (l : List Nd) (i : Int) (n : List UInt8) : Sp := ⟨(getN l i).ino, n, numB (getN l i).ents n⟩
def atN (l : List Nd) : Sp → List (List UInt8) → Sp × Int
  | s, [] => (s, 0)
  | s, n :: r => if s.ino = 0 then (zeroS, 1) else if (getN l s.ino).kind = 2 then atN l (stepS l s.ino n) r else (zeroS, 3)
def atP (l : List Nd) (p : List UInt8) : Sp × Int := match plainB p with
  | none => (zeroS, 9)
  | some ns => atN l rootS ns
def getP (l : List Nd) (p : List UInt8) : Nd × Int := if (atP l p).2 ≠ 0 then (zeroN, (atP l p).2) else if (atP l p).1.ino = 0 then (zeroN, 1) else (getN l (atP l p).1.ino, 0)
theorem at_gone {l : List Nd} {s : Sp} {n : List UInt8} {r : List (List UInt8)} (h : s.ino = 0) : atN l s (n :: r) = (zeroS, 1) := by rw [atN, if_pos h]
theorem at_file {l : List Nd} {s : Sp} {n : List UInt8} {r : List (List UInt8)} (h : s.ino ≠ 0) (hk : (getN l s.ino).kind ≠ 2) : atN l s (n :: r) = (zeroS, 3) := by rw [atN, if_neg h, if_neg hk]
theorem at_on {l : List Nd} {s : Sp} {n : List UInt8} {r : List (List UInt8)} (h : s.ino ≠ 0) (hk : (getN l s.ino).kind = 2) : atN l s (n :: r) = atN l (stepS l s.ino n) r := by rw [atN, if_neg h, if_pos hk]
theorem at_append {l : List Nd} (a : List (List UInt8)) : ∀ {s t : Sp} (b : List (List UInt8)), atN l s a = (t, 0) → atN l s (a ++ b) = atN l t b := by
  induction a with
  | nil => intro s t b h; rw [show t = s from (Prod.mk.inj h).1.symm]; rfl
  | cons n r ih =>
    intro s t b h
    by_cases h0 : s.ino = 0
    · rw [at_gone h0] at h; cases h
    · by_cases hk : (getN l s.ino).kind = 2
      · rw [at_on h0 hk] at h
        rw [List.cons_append, at_on h0 hk]; exact ih b h
      · rw [at_file h0 hk] at h; cases h
theorem num_mem {es : List Ent} (h : es.Pairwise (fun a b => a.1 ≠ b.1)) {e : Ent} (he : e ∈ es) : numB es e.1 = e.2 ∧ hasB es e.1 = true := by
  obtain ⟨k, hk, rfl⟩ := List.getElem_of_mem he
  refine find_at hk ?_ rfl
  rw [List.any_eq_false]
  intro x hx
  obtain ⟨j, hj, rfl⟩ := List.getElem_of_mem hx
  have hjk : j < k := by simp at hj; omega
  rw [List.getElem_take]
  simpa using List.pairwise_iff_getElem.1 h j k (by omega) hk hjk
theorem ent_pos {l : List Nd} (t : Tree l) {i : Int} : ∀ e ∈ (getN l i).ents, 0 < e.2 := by
  intro e he
  cases hh : hasN l i
  · rw [getN_none hh] at he; cases he
  · have hm := (get_mem hh).1
    have hk : (getN l i).kind = 2 := Decidable.byContradiction fun hk => by rw [t.files _ hm hk] at he; cases he
    have := ((rightB_iff _).1 (t.rights _ hm hk)).1 e he
    unfold goodE at this
    rw [Bool.and_eq_true, decide_eq_true_eq] at this
    exact this.2
theorem ent_dir {l : List Nd} (t : Tree l) {i : Int} {e : Ent} (he : e ∈ (getN l i).ents) : (getN l i).kind = 2 ∧ hasN l i = true := by
  have : isDir l i = true := kids_dir t (by
    unfold kidsN
    intro h
    have h2 := List.map_eq_nil_iff.1 h
    rw [h2] at he; cases he)
  unfold isDir at this
  rw [Bool.and_eq_true, decide_eq_true_eq] at this
  exact ⟨this.2, this.1⟩
/-- What a walk's way ends in. -/
structure Ends (l : List Nd) (s0 s : Sp) (r : List (List UInt8)) (j : Int) : Prop where
  leads : atN l s0 r = (s, 0)
  ino : s.ino = j
  has : hasN l j = true
  pos : 0 < j
  none : r = [] → s = s0
  some : r ≠ [] → isDir l s.dir = true ∧ (s.name, j) ∈ (getN l s.dir).ents ∧ r.getLast? = some s.name
theorem tree_at {l : List Nd} (t : Tree l) (d : Nat) : ∀ i ns, ∀ q ∈ treeN l d i ns, ∀ s0 : Sp, s0.ino = i → 0 < i → ∃ r s, q.1 = ns ++ r ∧ Ends l s0 s r q.2 := by
  induction d with
  | zero => intro i ns q hq; cases hq
  | succ d ih =>
    intro i ns q hq s0 hs hi
    unfold treeN at hq
    split at hq
    · rename_i hh
      rcases List.mem_cons.1 hq with rfl | hq
      · exact ⟨[], s0, by simp, rfl, hs, hh, hi, fun _ => rfl, fun h => absurd rfl h⟩
      · obtain ⟨e, he, hq⟩ := List.mem_flatMap.1 hq
        have hp := ent_pos t e he
        have hk := (ent_dir t he).1
        have hnum := (num_mem (ents_pair t i) he).1
        have hino := (get_mem hh).2
        obtain ⟨r, s, h1, h2⟩ := ih e.2 _ q hq (stepS l i e.1) hnum hp
        refine ⟨e.1 :: r, s, by rw [h1]; simp, ?_, h2.ino, h2.has, h2.pos, fun h => (by cases h), fun _ => ?_⟩
        · rw [at_on (by omega) (by rw [hs]; exact hk), hs]; exact h2.leads
        · by_cases hr : r = []
          · have e1 := h2.none hr
            subst hr
            have e2 := h2.ino
            rw [e1] at e2
            rw [e1]
            have e3 : (stepS l i e.1).dir = i := hino
            refine ⟨?_, ?_, rfl⟩
            · rw [e3]; unfold isDir; rw [hh, hk]; rfl
            · rw [e3]
              have e4 : (stepS l i e.1).ino = e.2 := hnum
              rw [e4] at e2
              rw [← e2]; exact he
          · obtain ⟨h3, h4, h5⟩ := h2.some hr
            refine ⟨h3, h4, ?_⟩
            cases r with
            | nil => exact absurd rfl hr
            | cons a r => rw [List.getLast?_cons_cons]; exact h5
    · cases hq
/-- Each path of the walk leads to what it was told with. -/
theorem list_at {l : List Nd} (t : Tree l) {k : Nat} (h : k < (listN l).length) : ∃ ns s, ns.all mayB = true ∧ (listN l)[k].1 = joinB ns ∧ Ends l rootS s ns (listN l)[k].2 ∧ (0 < k → ns ≠ []) ∧ (k = 0 → ns = []) := by
  have hm := List.getElem_mem h
  have hne : 0 < k → (listN l)[k].1 ≠ [47] := by
    intro h0 e
    obtain ⟨r, hr⟩ := list_head t
    have h1 := order_ne t h0 h
    have h2 : (listN l)[0]'(by omega) = ([47], 1) := by simp [hr]
    rw [h2] at h1
    exact h1 e.symm
  have hz : k = 0 → (listN l)[k].1 = [47] := by
    intro h0
    obtain ⟨r, hr⟩ := list_head t
    subst h0
    simp [hr]
  have e := list_tree t
  generalize (listN l)[k] = q at *
  rw [e] at hm
  obtain ⟨z, hz2, rfl⟩ := List.mem_map.1 hm
  obtain ⟨r, s, h1, h2⟩ := tree_at t _ _ _ z hz2 rootS rfl (by decide)
  rw [List.nil_append] at h1
  have hmay := tree_may t _ _ _ rfl z hz2
  refine ⟨z.1, s, hmay, rfl, by rw [h1]; exact h2, ?_, ?_⟩
  · intro h0 hn
    exact hne h0 (by show joinB z.1 = _; rw [hn]; rfl)
  · intro h0
    have := hz h0
    exact joinB_inj (mayB_all hmay) (fun n hn => nomatch hn) (show joinB z.1 = joinB [] from this)
theorem list_atP {l : List Nd} {ns : List (List UInt8)} {s : Sp} {j : Int} (hm : ns.all mayB = true) (h : Ends l rootS s ns j) : atP l (joinB ns) = (s, 0) ∧ getP l (joinB ns) = (getN l j, 0) := by
  have h1 : atP l (joinB ns) = (s, 0) := by
    unfold atP
    rw [plainB_join hm]; exact h.leads
  refine ⟨h1, ?_⟩
  unfold getP
  rw [h1, if_neg (by simp), if_neg (by rw [h.ino]; have := h.pos; omega), h.ino]
/-- Behind what is no directory nothing leads on. -/
theorem more_bad {l : List Nd} {ns : List (List UInt8)} {s : Sp} {j : Int} (hm : ns.all mayB = true) (h : Ends l rootS s ns j) (hk : (getN l j).kind ≠ 2) (name : List UInt8) : (atP l (joinB ns ++ 47 :: name)).2 ≠ 0 := by
  have hg := mayB_all hm
  unfold atP
  cases hp : plainB (joinB ns ++ 47 :: name) with
  | none => exact (by decide : (9 : Int) ≠ 0)
  | some ms =>
    obtain ⟨h1, h2, h3⟩ := plainB_yes hp
    have h4 : namesB (joinB ns ++ 47 :: name) = ns ++ namesB name := by rw [joinB, List.cons_append, namesB_slash, namesB_inter_more _ _ hg]
    rw [h3] at h4
    cases hn : namesB name with
    | nil =>
      rw [hn, List.append_nil] at h4
      rw [h4] at h1
      have := congrArg List.length h1
      simp at this
    | cons c r =>
      show (atN l rootS ms).2 ≠ 0
      rw [h4, hn, at_append _ _ h.leads, at_file (by rw [h.ino]; have := h.pos; omega) (by rw [h.ino]; exact hk)]
      decide

/-! ### An entry put, an entry taken -/
def putN (l : List Nd) (s : Sp) (i : Int) (ev : Go.Value) : List Nd := setN l { getN l s.dir with ents := withB (getN l s.dir).ents s.name i, ev := ev }
def takeN (l : List Nd) (s : Sp) (ev : Go.Value) : List Nd := setN l { getN l s.dir with ents := withoutB (getN l s.dir).ents s.name, ev := ev }
theorem setN_key (l : List Nd) {x y : Nd} (h : x.key = y.key) : (setN l x).map Nd.key = (setN l y).map Nd.key := by
  have hi : x.ino = y.ino := (Prod.mk.inj h).1
  unfold setN
  rw [hi, List.map_append, List.map_append, List.map_cons, List.map_cons, h]
theorem put_same (l : List Nd) (s : Sp) (i : Int) (a b : Go.Value) : onesB (putN l s i a) (putN l s i b) = true := decide_eq_true (setN_key l rfl)
theorem take_same (l : List Nd) (s : Sp) (a b : Go.Value) : onesB (takeN l s a) (takeN l s b) = true := decide_eq_true (setN_key l rfl)

/-! ### What the calls ask of a table -/
structure Calm (l : List Nd) : Prop where
  rise : riseP l
  right : ∀ x ∈ l, rightB x.ents = true
  size : ∀ x ∈ l, x.ents.length ≤ 1000 ∧ x.data.length ≤ 5000 ∧ shortP 300 x.ents
  len : l.length ≤ 1000
theorem calm_of {mi mb nx : Int} {l : List Nd} (h : okB mi mb nx l = true) : Calm l := by
  have t := tree_of h
  have hf := (ok_parts h).1
  have hl := (few_ents hf).2.1
  refine ⟨t.rise, fun x hx => ?_, fun x hx => ?_, by omega⟩
  · by_cases hk : x.kind = 2
    · exact t.rights x hx hk
    · rw [t.files x hx hk]; rfl
  · unfold fewN at hf
    rw [Bool.and_eq_true, List.all_eq_true] at hf
    have := hf.2 x hx
    unfold fewX at this
    simp only [Bool.and_eq_true, decide_eq_true_eq, List.all_eq_true] at this
    exact ⟨by omega, this.1.1, this.2⟩
theorem calm_get {l : List Nd} (h : Calm l) (i : Int) : rightB (getN l i).ents = true ∧ (getN l i).ents.length ≤ 1000 ∧ (getN l i).data.length ≤ 5000 ∧ shortP 300 (getN l i).ents := by
  cases hh : hasN l i
  · rw [getN_none hh]; exact ⟨rfl, Nat.zero_le _, Nat.zero_le _, fun _ h => (nomatch h)⟩
  · have hm := (get_mem hh).1
    exact ⟨h.right _ hm, h.size _ hm⟩
end Go.Proofs.YtobepdmpacdakaaGreat

/- What plain paths lead to, in a sound file system: is it there? No program's function. -/
namespace Go.Proofs.YtobepdmpacdakaaGreat

theorem ok_zero {mi mb nx : Int} {l : List Nd} (h : okB mi mb nx l = true) : hasN l 0 = false := by
  obtain ⟨_, h1, _⟩ := ok_parts h
  unfold firstB at h1
  rw [Bool.and_eq_true, Bool.and_eq_true, List.all_eq_true] at h1
  cases hh : hasN l 0
  · rfl
  · obtain ⟨hm, hi⟩ := get_mem hh
    have := h1.1.2 _ hm
    unfold inoB at this
    rw [Bool.and_eq_true, decide_eq_true_eq, decide_eq_true_eq, hi] at this
    omega
/-- What a path leads to is there, but for the last name's. -/
def LeadsIn (l : List Nd) (p : List UInt8) : Prop := (atP l p).2 = 0 → hasN l (atP l p).1.ino = decide ((atP l p).1.ino ≠ 0)
theorem num_hasB {es : List Ent} (h : rightB es = true) (n : List UInt8) : hasB es n = decide (numB es n ≠ 0) := by
  rw [has_find]
  unfold numB
  cases hf : es.find? (fun e => e.1 == n) with
  | none => rfl
  | some e =>
    have hm := List.mem_of_find?_eq_some hf
    have := ((rightB_iff es).1 h).1 e hm
    unfold goodE at this
    rw [Bool.and_eq_true, decide_eq_true_eq] at this
    simp; omega
theorem step_in {l : List Nd} (t : Tree l) (h0 : hasN l 0 = false) (i : Int) (n : List UInt8) : hasN l (stepS l i n).ino = decide ((stepS l i n).ino ≠ 0) := by
  show hasN l (numB (getN l i).ents n) = decide (numB (getN l i).ents n ≠ 0)
  unfold numB
  cases hf : (getN l i).ents.find? (fun e => e.1 == n) with
  | none => simpa using h0
  | some e =>
    have hm := List.mem_of_find?_eq_some hf
    have hp := ent_pos t e hm
    have hd := (get_mem (ent_dir t hm).2).1
    have ht := t.there _ hd e hm
    show hasN l e.2 = _
    rw [ht]
    simp; omega
theorem at_in {l : List Nd} (t : Tree l) (h0 : hasN l 0 = false) (ns : List (List UInt8)) : ∀ s q : Sp, hasN l s.ino = decide (s.ino ≠ 0) → atN l s ns = (q, 0) → hasN l q.ino = decide (q.ino ≠ 0) := by
  induction ns with
  | nil =>
    intro s q hs h
    rw [show q = s from (Prod.mk.inj h).1.symm]; exact hs
  | cons n r ih =>
    intro s q hs h
    by_cases hz : s.ino = 0
    · rw [at_gone hz] at h; cases h
    · by_cases hk : (getN l s.ino).kind = 2
      · rw [at_on hz hk] at h
        exact ih _ q (step_in t h0 _ _) h
      · rw [at_file hz hk] at h; cases h
theorem leads_in {mi mb nx : Int} {l : List Nd} (h : okB mi mb nx l = true) (p : List UInt8) : LeadsIn l p := by
  intro he
  have t := tree_of h
  unfold atP at he ⊢
  cases hp : plainB p with
  | none => rw [hp] at he; exact absurd (show (9 : Int) = 0 from he) (by decide)
  | some ns =>
    rw [hp] at he
    dsimp only at he ⊢
    exact at_in t (ok_zero h) ns rootS _ (by rw [show rootS.ino = 1 from rfl, t.root]; rfl) (Prod.ext rfl he)
/-- The directory in which a path's last name is looked for is there. -/
theorem at_dir {l : List Nd} (ns : List (List UInt8)) : ∀ s q : Sp, (s.dir ≠ 0 → hasN l s.dir = true) → atN l s ns = (q, 0) → q.dir ≠ 0 → hasN l q.dir = true := by
  induction ns with
  | nil =>
    intro s q hs h
    rw [show q = s from (Prod.mk.inj h).1.symm]; exact hs
  | cons n r ih =>
    intro s q hs h
    by_cases hz : s.ino = 0
    · rw [at_gone hz] at h; cases h
    · by_cases hk : (getN l s.ino).kind = 2
      · rw [at_on hz hk] at h
        refine ih _ q (fun _ => ?_) h
        show hasN l (getN l s.ino).ino = true
        cases hh : hasN l s.ino
        · rw [getN_none hh] at hk; cases hk
        · rw [(get_mem hh).2]; exact hh
      · rw [at_file hz hk] at h; cases h
theorem path_dir {l : List Nd} {p : List UInt8} (he : (atP l p).2 = 0) (hd : (atP l p).1.dir ≠ 0) : hasN l (atP l p).1.dir = true := by
  unfold atP at he hd ⊢
  cases hp : plainB p with
  | none => rw [hp] at he; exact absurd (show (9 : Int) = 0 from he) (by decide)
  | some ns =>
    rw [hp] at he hd
    dsimp only at he hd ⊢
    exact at_dir ns rootS _ (fun h => absurd rfl h) (Prod.ext rfl he) hd
theorem at_name {l : List Nd} {b : Nat} (ns : List (List UInt8)) : ∀ s : Sp, s.name.length ≤ b → (∀ n ∈ ns, n.length ≤ b) → (atN l s ns).1.name.length ≤ b := by
  induction ns with
  | nil => intro s hs _; exact hs
  | cons n r ih =>
    intro s hs hn
    by_cases hz : s.ino = 0
    · rw [at_gone hz]; exact Nat.zero_le _
    · by_cases hk : (getN l s.ino).kind = 2
      · rw [at_on hz hk]
        exact ih _ (hn n (by simp)) fun m hm => hn m (by simp [hm])
      · rw [at_file hz hk]; exact Nat.zero_le _
theorem at_name_len {l : List Nd} {p : List UInt8} (hp : p.length ≤ 50000) : (atP l p).1.name.length ≤ 100000000 := by
  unfold atP
  cases hq : plainB p with
  | none => exact Nat.zero_le _
  | some ns =>
    have h := (plainB_yes hq).2.2
    refine at_name ns rootS (Nat.zero_le _) fun n hn => ?_
    rw [← h] at hn
    exact Nat.le_trans (namesB_size p n hn) (by omega)
end Go.Proofs.YtobepdmpacdakaaGreat

/- Small laws used by all walks of this seat: endings, bytes in rows of the call's own, texts made of them. -/
namespace Go.Proofs.YtobepdmpacdakaaGreat
open Go.RowKit

theorem ret_bool {a b : Bool} (h : a = b) : Ending.returned (.bool a) = .returned (.bool b) := by rw [h]
theorem ret_str {a b : List UInt8} (h : a = b) : Ending.returned (.string ⟨a.toArray⟩) = .returned (.string ⟨b.toArray⟩) := by rw [h]
theorem str_len {s : ByteArray} {n : Nat} (h : s.size ≤ n) : s.data.toList.length ≤ n := by rw [Array.length_toList]; exact h
theorem str_eta (s : ByteArray) : s = ⟨s.data.toList.toArray⟩ := by simp

@[go_sem] theorem str_at (l : List UInt8) (k : Nat) (h : k < (ByteArray.mk l.toArray).size) : (ByteArray.mk l.toArray)[k] = l[k]'(by have h' := h; simp [ByteArray.size] at h'; exact h') := rfl

theorem bits_and15_all : ∀ n : Fin 256, bits BinOp.and IntKind.u8 ((n.val : Nat) : Int) 15 = ((n.val : Nat) : Int) % 16 := by decide +kernel
theorem bits_and15 (n : Nat) (h : n < 256) : bits BinOp.and IntKind.u8 (n : Int) 15 = (n : Int) % 16 := bits_and15_all ⟨n, h⟩

@[go_sem] theorem take_drop_all {α : Type} (l : List α) (k : Nat) : (l.drop k).take (l.length - k) = l.drop k := List.take_of_length_le (by simp)

/-- Bytes as cells. -/
def bytesV (l : List UInt8) : List Value := l.map fun c => .int .u8 (c.toNat : Int)
theorem bytesV_append (a b : List UInt8) : bytesV (a ++ b) = bytesV a ++ bytesV b := by simp [bytesV]
theorem bytesV_one (l : List UInt8) : ∀ u ∈ bytesV l, u.oneCell' = true := by
  intro u hu; obtain ⟨_, _, rfl⟩ := List.mem_map.1 hu; rfl
theorem bytesV_len (l : List UInt8) : (bytesV l).length = l.length := by simp [bytesV]

/-- The cells of a new block of bytes. -/
theorem cells_block (w : World) (C : Array Value) (t : TypeId) : ∀ (j : Nat) (u : Value), C.toList[j]? = some u → (w.alloc (.cells C t)).cell? ((⟨w.heap.size, 0, none⟩ : Addr).add j) = some u := by
  intro j u h
  have := World.cell?_alloc_mark w C t (0, 0) j
  rw [Addr.add_lit, Nat.zero_add, this]; simpa using h

/-- A text made of an owned row of bytes. -/
theorem run_own_string {P : Program} {w : World} {base : Nat} {e : TypeId} {v : Value} {n : Nat} {l : List UInt8} (src dst : TypeId) (hs : P.underlying src = some (.slice e)) (he : P.underlying e = some (.int .u8)) (hd : P.underlying dst = some .string)
    (h : w.ownsRow base e 1 v n (bytesV l)) : (convert src dst v).run P w = .ok (.string ⟨l.toArray⟩) w := by
  have hlen := h.1
  rw [bytesV_len] at hlen
  rcases h.2 with ⟨rfl, rfl⟩ | ⟨g, cap, cur, rfl, hg, hh, hnc, hcm, hsz, htk⟩
  · have : l = [] := List.eq_nil_of_length_eq_zero (by simpa using hlen)
    subst this
    rw [run_convert_bytes_string w src dst e none 0 0 hs he hd]
    rfl
  · have hn : n = l.length := by omega
    subst hn
    refine run_convert_bytes_back w src dst e ⟨g, 0, none⟩ cap l hs he hd ?_
    intro j hj
    have hc := World.ownsRow.cells h (g := g) rfl j (.int .u8 (l[j].toNat : Int)) (by simp [bytesV, List.getElem?_eq_getElem hj])
    exact hc

theorem wpList_own_string {P : Program} {w : World} {ops : Array Oper} {rest : List Oper} {o : Oper} {a : Act} {Q : Exit → Act → World → Prop} (hgd : o.guard = none) (x : Operand) (src dst : TypeId)
    (ho : o.op = .convert src dst x) {base : Nat} {e : TypeId} {v : Value} {n : Nat} {l : List UInt8} (hs : P.underlying src = some (.slice e)) (he : P.underlying e = some (.int .u8)) (hd : P.underlying dst = some .string)
    (hx : a.eval x = v) (h : w.ownsRow base e 1 v n (bytesV l)) (hK : wpList P ops Q rest (a.put o.dst (.string ⟨l.toArray⟩)) w) : wpList P ops Q (o :: rest) a w := by
  refine wpList_plain hgd fun K hK' => ?_
  have hrun := run_own_string (P := P) src dst hs he hd h
  unfold Oper.wp
  simp [execOp, ho, hx, hrun, Result.andThen]
  exact hK' _ _ hK

theorem own_below {w w' : World} {base : Nat} {e : TypeId} {size : Nat} {v : Value} {n : Nat} {xs : List Value} (h : w.ownsRow base e size v n xs) (hg : w.grownBy w' v.ownBlock) (hb : base ≤ w.heap.size) : Below base w w' :=
  (Below.refl base w).grown hg hb fun k hk => (h.lt k hk).1

/-- What is owned stays owned behind whatever turns nothing that was there. -/
theorem own_keep {w w' : World} {base : Nat} {e : TypeId} {size : Nat} {v : Value} {n : Nat} {xs : List Value} (h : w.ownsRow base e size v n xs) (hb : Below w.heap.size w w') : w'.ownsRow base e size v n xs := by
  obtain ⟨h1, h2⟩ := h
  refine ⟨h1, ?_⟩
  rcases h2 with h2 | ⟨g, cap, cur, hv, hg, hh, r⟩
  · exact Or.inl h2
  · have hlt : g < w.heap.size := by
      rcases Nat.lt_or_ge g w.heap.size with h | h
      · exact h
      · simp [Array.getElem?_eq_none h] at hh
    exact Or.inr ⟨g, cap, cur, hv, hg, by rw [hb.block g hlt]; exact hh, r⟩

/-- 'append(s, a, b, ..)': what is appended lies in a block that was just made for it. -/
theorem wpList_append_new {P : Program} {w : World} {ops : Array Oper} {rest : List Oper} {o : Oper} {a : Act} {Q : Exit → Act → World → Prop} (hgd : o.guard = none) (s x : Operand) (t e : TypeId)
    (ho : o.op = .call { callee := .builtin .append, args := #[s, x], argTypes := #[t, t] })
    {i : TypeInfo} {z : Value} {size bytes : Nat} (ht : P.underlying t = some (.slice e)) (hi : P.info? e = some i) (hz : i.zero = some z)
    (hsize : i.size = size) (hby : i.bytes = bytes) (hzs : z.cells.size = size) (hsz : 0 < size) (hbs : bytes ≤ 128)
    (base : Nat) {v : Value} {n : Nat} {xs : List Value} (C : Array Value) (m : Nat) (hs : a.eval s = v) (hx : a.eval x = .slice (some ⟨w.heap.size, 0, none⟩) m m) (hown : w.ownsRow base e size v n xs)
    (hm : C.size = m * size) (h1 : ∀ u ∈ C.toList, u.oneCell' = true) (hb : n + m ≤ 1099511627776) (hbase : base ≤ w.heap.size)
    (hK : ∀ v' w', w'.ownsRow base e size v' (n + m) (xs ++ C.toList) → Below base w w' → wpList P ops Q rest (a.put o.dst v') w') :
    wpList P ops Q (o :: rest) a (w.alloc (.cells C e)) := by
  refine wpList_append_own _ hgd s x t ho base e i z size bytes ht hi hz hsize hby hzs hsz v n xs hs (hown.alloc _) ⟨w.heap.size, 0, none⟩ m m C.toList hx (by simpa using hm) (cells_block w C e) h1 (by unfold maxLen; omega) ?_ (by simp; omega) ?_
  · calc (n + m) * bytes ≤ 1099511627776 * 128 := Nat.mul_le_mul hb hbs
      _ ≤ 140737488355328 := by decide
  · intro v' w' h2 h3 _
    exact hK v' w' h2 (((Below.refl base w).alloc hbase _).trans (own_below (hown.alloc _) h3 (by simp; omega)))

/-- The same, and every block but the row's own stays. -/
theorem wpList_append_near {P : Program} {w : World} {ops : Array Oper} {rest : List Oper} {o : Oper} {a : Act} {Q : Exit → Act → World → Prop} (hgd : o.guard = none) (s x : Operand) (t e : TypeId)
    (ho : o.op = .call { callee := .builtin .append, args := #[s, x], argTypes := #[t, t] })
    {i : TypeInfo} {z : Value} {size bytes : Nat} (ht : P.underlying t = some (.slice e)) (hi : P.info? e = some i) (hz : i.zero = some z)
    (hsize : i.size = size) (hby : i.bytes = bytes) (hzs : z.cells.size = size) (hsz : 0 < size) (hbs : bytes ≤ 128)
    (base : Nat) {v : Value} {n : Nat} {xs : List Value} (C : Array Value) (m : Nat) (hs : a.eval s = v) (hx : a.eval x = .slice (some ⟨w.heap.size, 0, none⟩) m m) (hown : w.ownsRow base e size v n xs)
    (hm : C.size = m * size) (h1 : ∀ u ∈ C.toList, u.oneCell' = true) (hb : n + m ≤ 1099511627776) (hbase : base ≤ w.heap.size)
    (hK : ∀ v' w', w'.ownsRow base e size v' (n + m) (xs ++ C.toList) → (w.alloc (.cells C e)).grownBy w' v.ownBlock → wpList P ops Q rest (a.put o.dst v') w') :
    wpList P ops Q (o :: rest) a (w.alloc (.cells C e)) := by
  refine wpList_append_own _ hgd s x t ho base e i z size bytes ht hi hz hsize hby hzs hsz v n xs hs (hown.alloc _) ⟨w.heap.size, 0, none⟩ m m C.toList hx (by simpa using hm) (cells_block w C e) h1 (by unfold maxLen; omega) ?_ (by simp; omega) ?_
  · calc (n + m) * bytes ≤ 1099511627776 * 128 := Nat.mul_le_mul hb hbs
      _ ≤ 140737488355328 := by decide
  · intro v' w' h2 h3 _
    exact hK v' w' h2 h3

/-- The same as one step of a region that draws its order. -/
theorem step_append_own {P : Program} {ops : Array Oper} {o : Oper} {a : Act} {w : World} {K : Act → World → Prop} {Q : Exit → Act → World → Prop} {E : Prop} (hgd : o.guard = none) (s x : Operand) (t e : TypeId)
    (ho : o.op = .call { callee := .builtin .append, args := #[s, x], argTypes := #[t, t] })
    {i : TypeInfo} {z : Value} {size bytes : Nat} (ht : P.underlying t = some (.slice e)) (hi : P.info? e = some i) (hz : i.zero = some z)
    (hsize : i.size = size) (hby : i.bytes = bytes) (hzs : z.cells.size = size) (hsz : 0 < size) (hbs : bytes ≤ 128)
    (base : Nat) {v : Value} {n : Nat} {xs : List Value} (ad : Addr) (m : Nat) (news : List Value) (hs : a.eval s = v) (hx : a.eval x = .slice (some ad) m m) (hown : w.ownsRow base e size v n xs)
    (hm : news.length = m * size) (hnews : ∀ j u, news[j]? = some u → w.cell? (ad.add j) = some u) (h1 : ∀ u ∈ news, u.oneCell' = true) (hb : n + m ≤ 1099511627776) (hbase : base ≤ w.heap.size)
    (hK : ∀ v' w', w'.ownsRow base e size v' (n + m) (xs ++ news) → Below base w w' → K (a.put o.dst v') w') :
    if Region.wanted o (yielded ops a.tmps) = true then Oper.wp P o a w K Q else E := by
  rw [if_pos (by simp [Region.wanted, hgd])]
  refine wp_append_own w s x t ho base e i z size bytes ht hi hz hsize hby hzs hsz v n xs hs hown ad m m news hx hm hnews h1 (by unfold maxLen; omega) ?_ hbase ?_
  · calc (n + m) * bytes ≤ 1099511627776 * 128 := Nat.mul_le_mul hb hbs
      _ ≤ 140737488355328 := by decide
  · intro v' w' h2 h3 _
    exact hK v' w' h2 (own_below hown h3 hbase)

/-- A text made of bytes that lie in a block just made for them. -/
theorem run_new_string {P : Program} (w : World) (src dst : TypeId) {e : TypeId} (hs : P.underlying src = some (.slice e)) (he : P.underlying e = some (.int .u8)) (hd : P.underlying dst = some .string)
    (l : List UInt8) (C : Array Value) (hC : C = (bytesV l).toArray) (n : Nat) (hn : n = l.length) :
    (convert src dst (.slice (some ⟨w.heap.size, 0, none⟩) n n)).run P (w.alloc (.cells C e)) = .ok (.string ⟨l.toArray⟩) (w.alloc (.cells C e)) := by
  subst hC hn
  exact run_convert_bytes_back (P := P) (w.alloc (.cells (bytesV l).toArray e)) src dst e ⟨w.heap.size, 0, none⟩ l.length l hs he hd (by
    intro j hj
    exact cells_block w (bytesV l).toArray e j _ (by simp [bytesV, List.getElem?_eq_getElem hj]))
end Go.Proofs.YtobepdmpacdakaaGreat

/- Slices of texts: one that came in, one of the call's own. -/
namespace Go.Proofs.YtobepdmpacdakaaGreat
open Go.RowKit

def strsV (ws : List (List UInt8)) : List Value := ws.map fun l => .string ⟨l.toArray⟩

/-- A slice that reads as these texts. -/
def Strs (w : World) (v : Value) (l : List (List UInt8)) : Prop :=
  ∃ a cap, v = .slice a l.length cap ∧ l.length ≤ maxLen ∧ (0 < l.length → ∃ b off, a = some ⟨b, off, none⟩ ∧ b < w.heap.size ∧ ∀ i (h : i < l.length), w.cell? ⟨b, off + i, none⟩ = some (.string ⟨l[i].toArray⟩))

theorem Strs.below {w w' : World} {v : Value} {l : List (List UInt8)} (h : Strs w v l) (hb : Below w.heap.size w w') : Strs w' v l := by
  obtain ⟨a, cap, rfl, hm, h1⟩ := h
  refine ⟨a, cap, rfl, hm, fun hl => ?_⟩
  obtain ⟨b, off, rfl, hlt, hc⟩ := h1 hl
  exact ⟨b, off, rfl, Nat.lt_of_lt_of_le hlt hb.size, fun i hi => (hb.cell (p := ⟨b, off + i, none⟩) hlt).trans (hc i hi)⟩

theorem Strs.nil_ (w : World) : Strs w (.slice none 0 0) [] := ⟨none, 0, rfl, Nat.zero_le _, fun h => absurd h (by simp)⟩

theorem own_strs {w : World} {base : Nat} {e : TypeId} {v : Value} {n : Nat} {l : List (List UInt8)} (h : w.ownsRow base e 1 v n (strsV l)) : Strs w v l := by
  have hlen := h.1
  simp [strsV] at hlen
  subst hlen
  rcases h.2 with ⟨rfl, h0⟩ | ⟨g, cap, cur, rfl, hg, hh, hnc, hcm, hsz, htk⟩
  · have : l = [] := List.eq_nil_of_length_eq_zero h0
    subst this
    exact ⟨none, 0, rfl, Nat.zero_le _, fun h => absurd h (by simp)⟩
  · refine ⟨_, cap, rfl, by omega, fun _ => ⟨g, 0, rfl, ?_, fun i hi => ?_⟩⟩
    · exact (h.lt g rfl).2
    · have hc := World.ownsRow.cells h (g := g) rfl i (.string ⟨l[i].toArray⟩) (by simp [strsV, List.getElem?_eq_getElem hi])
      rw [Addr.add_lit] at hc
      exact hc

/-- Texts in a block that was just made for them. -/
theorem new_strs (w : World) (t : TypeId) (C : Array Value) (l : List (List UInt8)) (n cap : Nat) (hC : C = (strsV l).toArray) (hn : n = l.length) (hm : l.length ≤ maxLen) : Strs (w.alloc (.cells C t)) (.slice (some ⟨w.heap.size, 0, none⟩) n cap) l := by
  subst hC hn
  refine ⟨_, cap, rfl, hm, fun _ => ⟨w.heap.size, 0, rfl, by simp, fun i hi => ?_⟩⟩
  have := cells_block w (strsV l).toArray t i (.string ⟨l[i].toArray⟩) (by simp [strsV, List.getElem?_eq_getElem hi])
  rw [Addr.add_lit] at this
  exact this

theorem bytesV_str (l : List UInt8) : Lib.strCells ⟨l.toArray⟩ = bytesV l := by simp [Lib.strCells, bytesV]
end Go.Proofs.YtobepdmpacdakaaGreat

/- A block of cells, known whole. -/
namespace Go.Proofs.YtobepdmpacdakaaGreat
open Go.RowKit

/-- A block of cells, each of which may be written. -/
def Blk (W : World) (B : Nat) (t : TypeId) (cs : Array Value) : Prop := W.heap[B]? = some (.cells cs t (0, 0))
theorem Blk.lt {W : World} {B : Nat} {t : TypeId} {cs : Array Value} (h : Blk W B t cs) : B < W.heap.size := (Array.getElem?_eq_some_iff.1 h).1
theorem Blk.cell {W : World} {B : Nat} {t : TypeId} {cs : Array Value} (h : Blk W B t cs) (i : Nat) : W.cell? ⟨B, i, none⟩ = cs[i]? := by simp [World.cell?, show W.heap[B]? = _ from h]
theorem Blk.frozen {W : World} {B : Nat} {t : TypeId} {cs : Array Value} (h : Blk W B t cs) (i : Nat) : W.frozen? ⟨B, i, none⟩ = false := by simp [World.frozen?, show W.heap[B]? = _ from h]
theorem Blk.new (W : World) (t : TypeId) (cs : Array Value) : Blk (W.alloc (.cells cs t)) W.heap.size t cs := World.alloc_heap_new W _
theorem Blk.kept {W W' : World} {row : Option Nat} {B : Nat} {t : TypeId} {cs : Array Value} (h : Blk W B t cs) (hg : W.grownBy W' row) (hne : some B ≠ row) : Blk W' B t cs := (hg.block B h.lt hne).trans h
theorem Blk.below {W W' : World} {n B : Nat} {t : TypeId} {cs : Array Value} (h : Blk W B t cs) (hb : Below n W W') (hn : B < n) : Blk W' B t cs := (hb.block B hn).trans h
theorem Blk.next {W W' : World} {B : Nat} {t : TypeId} {cs : Array Value} (h : Blk W B t cs) (hb : Below W.heap.size W W') : Blk W' B t cs := h.below hb h.lt
theorem Blk.alloc {W : World} {B : Nat} {t : TypeId} {cs : Array Value} (h : Blk W B t cs) (o : Obj) : Blk (W.alloc o) B t cs := h.kept (World.grownBy_alloc W o none) (by simp)
theorem Blk.set {W : World} {B : Nat} {t : TypeId} {cs : Array Value} (h : Blk W B t cs) (i : Nat) (v : Value) : Blk (W.setCell ⟨B, i, none⟩ v) B t (cs.setIfInBounds i v) := by
  obtain ⟨hlt, hk⟩ := Array.getElem?_eq_some_iff.1 h
  show (W.heap.modify B _)[B]? = _
  rw [Array.getElem?_eq_getElem (by rw [Array.size_modify]; exact hlt), Array.getElem_modify_self, hk]
  rfl
theorem Blk.other {W : World} {B B2 i : Nat} {t : TypeId} {cs : Array Value} (h : Blk W B t cs) (hne : B ≠ B2) (v : Value) : Blk (W.setCell ⟨B2, i, none⟩ v) B t cs := by
  show (W.setCell ⟨B2, i, none⟩ v).heap[B]? = _
  rw [Below.heap_setCell _ _ _ B (fun e => hne e)]; exact h
theorem grownBy_set (W : World) (b i : Nat) (v : Value) : W.grownBy (W.setCell ⟨b, i, none⟩ v) (some b) :=
  ⟨rfl, rfl, rfl, (KeepsWalks.setCell W _ v).size, fun k _ hk => Below.heap_setCell _ _ _ k (fun e => hk (by rw [e]))⟩
end Go.Proofs.YtobepdmpacdakaaGreat

/- Small laws for loops over an iterator whose body writes a variable's block: blocks of cells, what a call that only makes memory keeps, an append as one step of a region inside a fence. -/
namespace Go.Proofs.YtobepdmpacdakaaGreat
open Go.RowKit

theorem Blk.not_row {W : World} {B : Nat} {t e : TypeId} {cs : Array Value} (h : Blk W B t cs) (hte : t ≠ e) {base size k : Nat} {v : Value} {xs : List Value} (hr : W.ownsRow base e size v k xs) : some B ≠ v.ownBlock := by
  rcases hr.2 with ⟨rfl, _⟩ | ⟨g, cap, cur, rfl, _, hgb, _⟩
  · simp [Value.ownBlock]
  · intro e'
    obtain rfl : B = g := by simpa [Value.ownBlock] using e'
    have := (show W.heap[B]? = _ from h).symm.trans hgb
    simp at this
    exact hte this.2

/-- A block whose cells hold what they hold, and a slice in it that owns its row: cells alone are spoken of. -/
theorem blkRow_own {β : Type} (n₀ B : Nat) (t e : TypeId) (size : Nat) (k : β → Nat) (f : β → List Value) (cs : Value → Array Value) : Own (fun s W => ∃ v, Blk W B t (cs v) ∧ W.ownsRow n₀ e size v (k s) (f s)) := by
  rintro s X Y row ⟨v, hv, hr⟩ hg hrow
  refine ⟨v, hv.kept hg (fun e' => ?_), hr.kept hg ?_⟩
  · obtain ⟨o, ho, hc⟩ := hrow B e'.symm
    rw [show X.heap[B]? = _ from hv] at ho; cases ho; cases hc
  · rcases hr.2 with ⟨rfl, _⟩ | ⟨g, cap, cur, rfl, _, hgb, _⟩
    · exact .inl rfl
    · refine .inr fun e' => ?_
      obtain ⟨o, ho, hc⟩ := hrow g (by simpa [Value.ownBlock] using e'.symm)
      rw [hgb] at ho; cases ho; cases hc
theorem blk_own {β : Type} (B : Nat) (t : TypeId) (cs : β → Array Value) : Own (fun s W => Blk W B t (cs s)) := by
  intro s X Y row hv hg hrow
  refine hv.kept hg (fun e' => ?_)
  obtain ⟨o, ho, hc⟩ := hrow B e'.symm
  rw [show X.heap[B]? = _ from hv] at ho; cases ho; cases hc

/-- A call that only makes memory keeps all. -/
theorem keeps_below {W W' : World} (B : Nat) (h : Below W.heap.size W W') : KeepsFrom B W W' :=
  ⟨h.size, fun k o _ hk _ => by rw [h.block k (Array.getElem?_eq_some_iff.1 hk).1]; exact hk⟩

/-- 'x.f = append(x.f, g(..))', g a call that only makes memory: all that the walk owes. -/
theorem Blk.appended {W W2 w1 : World} {n₀ B i : Nat} {t e : TypeId} {size : Nat} {cs : Array Value} {v v' : Value} {k m : Nat} {xs ys : List Value} {tmp : Obj}
    (hv : Blk W B t cs) (hte : t ≠ e) (hrow : W.ownsRow n₀ e size v k xs) (hn₀ : n₀ ≤ W.heap.size) (hB : n₀ ≤ B) (h2 : Below W.heap.size W W2)
    (hown' : w1.ownsRow n₀ e size v' m ys) (hgrow : (W2.alloc tmp).grownBy w1 v.ownBlock) :
    Blk w1 B t cs ∧ Blk (w1.setCell ⟨B, i, none⟩ v') B t (cs.setIfInBounds i v') ∧ (w1.setCell ⟨B, i, none⟩ v').ownsRow n₀ e size v' m ys ∧ KeepsOthers W (w1.setCell ⟨B, i, none⟩ v') ∧ Below n₀ W (w1.setCell ⟨B, i, none⟩ v') := by
  have hrow2 : W2.ownsRow n₀ e size v k xs := own_keep hrow h2
  have hv2 : Blk W2 B t cs := hv.next h2
  have hv1 : Blk w1 B t cs := (hv2.alloc tmp).kept hgrow (hv2.not_row hte hrow2)
  refine ⟨hv1, hv1.set i v', hown'.kept (grownBy_set w1 B i v') (.inr (hv1.not_row hte hown').symm), ?_, ?_⟩
  · refine ((KeepsOthers.trans ⟨h2.size, fun j o hj _ => by rw [h2.block j (Array.getElem?_eq_some_iff.1 hj).1]; exact hj⟩ (KeepsOthers.alloc W2 tmp)).trans (KeepsOthers.of_grownBy hgrow fun j o ej hj => ?_)).trans (KeepsOthers.setCell _ _ _)
    rcases (hrow2.alloc tmp).2 with ⟨rfl, _⟩ | ⟨g, cap, cur, rfl, _, hgb, _⟩
    · simp [Value.ownBlock] at ej
    · obtain rfl : g = j := by simpa [Value.ownBlock] using ej
      rw [hgb] at hj; cases hj; rfl
  · have hs2 := h2.size
    refine (((h2.mono hn₀).alloc (by omega) tmp).grown hgrow (by simp; omega) fun j ej => ?_).setCell (p := ⟨B, i, none⟩) hB v'
    rcases hrow2.2 with ⟨rfl, _⟩ | ⟨g, cap, cur, rfl, hb, _, _⟩
    · simp [Value.ownBlock] at ej
    · obtain rfl : g = j := by simpa [Value.ownBlock] using ej
      exact hb

theorem stepIn_append_own {F : Fence} {n : Nat} {P : Program} {ops : Array Oper} {o : Oper} {a : Act} {w : World} {K : Act → World → Prop} {Q : Exit → Act → World → Prop} {E : Prop}
    (hgd : o.guard = none) (s x : Operand) (t e : TypeId) (ho : o.op = .call { callee := .builtin .append, args := #[s, x], argTypes := #[t, t] })
    {i : TypeInfo} {z : Value} {size bytes : Nat} (ht : P.underlying t = some (.slice e)) (hi : P.info? e = some i) (hz : i.zero = some z)
    (hsize : i.size = size) (hby : i.bytes = bytes) (hzs : z.cells.size = size) (hsz : 0 < size)
    (base : Nat) {v : Value} {k : Nat} {xs : List Value} (ad : Addr) (m : Nat) (news : List Value) (hs : a.eval s = v) (hx : a.eval x = .slice (some ad) m m) (hown : w.ownsRow base e size v k xs)
    (hm : news.length = m * size) (hnews : ∀ j u, news[j]? = some u → w.cell? (ad.add j) = some u) (h1 : ∀ u ∈ news, u.oneCell' = true) (b1 : k + m ≤ maxLen) (b2 : (k + m) * bytes ≤ 140737488355328) (b3 : base ≤ w.heap.size)
    (hK : ∀ v' w', w'.ownsRow base e size v' (k + m) (xs ++ news) → w.grownBy w' v.ownBlock → K (a.put o.dst v') w') :
    if Region.wanted o (yielded ops a.tmps) = true then Oper.wpIn F n P o a w K Q else E := by
  rw [if_pos (by simp [Region.wanted, hgd])]
  obtain ⟨v', w', hrun, r1, r2, _⟩ := run_append_own (P := P) w base t o.type e i z size bytes ht hi hz hsize hby hzs hsz v k xs hown ad m m news hm hnews h1 b1 b2 b3
  unfold Oper.wpIn
  refine ⟨?_, ?_⟩
  · simp [Oper.about, ho, resolve, Target.leads, Sem.run_pure]
  · rw [Oper.semAt_plain F _ _ (by rw [ho]; intro c hc'; cases hc')]
    simp [execOp, ho, resolve, invoke, builtin, hs, hx, hrun, Result.andThen]
    exact hK v' w' r1 r2
end Go.Proofs.YtobepdmpacdakaaGreat

/- Walks: the document's Names, Read, Put, Join, Base. -/
namespace Go.Proofs.YtobepdmpacdakaaGreat
open Go.RowKit

theorem Tryz.infoS2 : (Tryz.prog.info? 9).map (fun i => (i.zero, i.size, i.bytes)) = some (some (.string ByteArray.empty), 1, 16) := by kernel_rfl

theorem drop_cons {l : List UInt8} {i : Nat} (h : i < l.length) : l.drop i = l[i] :: l.drop (i + 1) := List.drop_eq_getElem_cons h

set_option maxHeartbeats 4000000 in
theorem refNames_any (p : List UInt8) (w : World) (hp : p.length ≤ 1000000) :
    Calls Tryz.prog 60 #[.string ⟨p.toArray⟩] w fun e w' => ∃ v, e = .returned v ∧ w'.ownsRow w.heap.size 9 1 v (namesB p).length (strsV (namesB p)) ∧ Below w.heap.size w w' := by
  obtain ⟨is, hsi, hs0, hs1, hs2⟩ := info_parts Tryz.infoS2
  go_enter Tryz.func60, Tryz.ntmps60
  go_wp2
  go_loopg [3, 4, 5] (p.length + 1) (fun g s3 s4 s5 wr => ∃ (i : Nat) (ns : List (List UInt8)) (a : List UInt8), i + g = p.length + 1 ∧ s5 = .int .i64 i ∧ s4 = .string ⟨a.toArray⟩ ∧ a.length + ns.length ≤ i ∧ wr.ownsRow w.heap.size 9 1 s3 ns.length (strsV ns) ∧
    Aside ((i ≤ p.length → namesB p = ns ++ namesA a (p.drop i)) ∧ (p.length < i → namesB p = ns)) ∧ Below w.heap.size w wr)
  case atStart => exact ⟨0, [], [], by omega, rfl, rfl, by simp, World.ownsRow_nil _ _ _ _, ⟨fun _ => by simp [namesB], fun h => absurd h (by omega)⟩, Below.refl _ _⟩
  case round =>
    obtain ⟨i, ns, a, hig, rfl, rfl, hal, hown, HN, hB⟩ := hrel
    by_cases hle : i ≤ p.length
    · obtain ⟨g, rfl⟩ : ∃ g, gk = g + 1 := ⟨gk - 1, by omega⟩
      have HN1 := Lib.hid (HN.out.1 hle)
      clear HN
      by_cases hlt : i < p.length
      · cases hc : ((p[i].toNat : Int) != 47)
        · have hc2 : p[i] = 47 := UInt8.toNat_inj.1 (by simp at hc; simp; omega)
          have HN2 := Lib.hid (HN1.out.trans (by rw [drop_cons hlt, hc2, namesA_slash]))
          by_cases ha : a = []
          · subst ha
            go_wp2
            go_roundg g
            case measure => omega
            case rel => exact ⟨i + 1, ns, [], by omega, by go_num, rfl, by simp at hal ⊢; omega, hown, ⟨fun _ => by rw [HN2.out, atomB_nil]; rfl, fun h => absurd h (by omega)⟩, hB⟩
          · have ha0 : a.isEmpty = false := by simpa using ha
            have hapos : 0 < a.length := List.length_pos_iff.2 ha
            go_wp2_with (at_builtin; refine wpList_append_new rfl (.tmp 31) (.tmp 33) 60 9 rfl Tryz.underlying60 hsi hs0 hs1 hs2 rfl (by decide) (by decide) w.heap.size _ 1 rfl rfl hown rfl (by simp [Value.oneCell']) (by omega) hB.size ?_; intro v4 w4 hown4 hb4)
            go_roundg g
            case measure => omega
            case rel => exact ⟨i + 1, ns ++ [a], [], by omega, by go_num, rfl, by simp; omega, by simpa [strsV] using hown4, ⟨fun _ => by rw [HN2.out, atomB_cons ha]; simp, fun h => absurd h (by omega)⟩, hB.trans hb4⟩
        · have hc2 : p[i] ≠ 47 := by intro e; rw [e] at hc; exact absurd hc (by decide)
          have HN2 := Lib.hid (HN1.out.trans (by rw [drop_cons hlt, namesA_byte _ _ hc2]))
          have HX : Hid (ByteArray.mk a.toArray ++ (ByteArray.mk p.toArray).extract i (i + 1) = ⟨(a ++ [p[i]]).toArray⟩) := by
            (show _ = _); rw [Lib.extract_eq]; apply ByteArray.ext; simp [ByteArray.data_append, Nat.add_sub_cancel_left, List.take_one, List.head?_drop, hlt]
          have k1 : (0 : Int) ≤ (i : Int) := by omega
          have k2 : (i : Int) ≤ (i : Int) + 1 := by omega
          have k3 : (i : Int) + 1 ≤ (p.length : Int) := by omega
          go_wp2
          go_roundg g
          case measure => omega
          case rel => exact ⟨i + 1, ns, a ++ [p[i]], by omega, by go_num, by rw [HX.out], by simp; omega, hown, ⟨fun _ => HN2.out, fun h => absurd h (by omega)⟩, hB⟩
      · obtain rfl : i = p.length := by omega
        have HN2 := Lib.hid (HN1.out.trans (by rw [List.drop_length, namesA_nil]))
        by_cases ha : a = []
        · subst ha
          go_wp2
          go_roundg g
          case measure => omega
          case rel => exact ⟨p.length + 1, ns, [], by omega, by go_num, rfl, by simp at hal ⊢; omega, hown, ⟨fun h => absurd h (by omega), fun _ => by rw [HN2.out, atomB_nil, List.append_nil]⟩, hB⟩
        · have ha0 : a.isEmpty = false := by simpa using ha
          have hapos : 0 < a.length := List.length_pos_iff.2 ha
          go_wp2_with (at_builtin; refine wpList_append_new rfl (.tmp 31) (.tmp 33) 60 9 rfl Tryz.underlying60 hsi hs0 hs1 hs2 rfl (by decide) (by decide) w.heap.size _ 1 rfl rfl hown rfl (by simp [Value.oneCell']) (by omega) hB.size ?_; intro v4 w4 hown4 hb4)
          go_roundg g
          case measure => omega
          case rel => exact ⟨p.length + 1, ns ++ [a], [], by omega, by go_num, rfl, by simp; omega, by simpa [strsV] using hown4, ⟨fun h => absurd h (by omega), fun _ => by rw [HN2.out, atomB_cons ha]⟩, hB.trans hb4⟩
    · have HN2 := Lib.hid (HN.out.2 (by omega))
      go_wp2
      go_ret
      exact ⟨_, rfl, by rw [HN2.out]; exact hown, hB⟩
end Go.Proofs.YtobepdmpacdakaaGreat

/- Walks: the document's Read, Base, Put, Join. -/
namespace Go.Proofs.YtobepdmpacdakaaGreat
open Go.RowKit

abbrev pathR (a : Bool) (v : Value) (s : Bool) : Array Value := #[.bool a, v, .bool s]
theorem cat (a b : List UInt8) : ByteArray.mk a.toArray ++ ByteArray.mk b.toArray = ⟨(a ++ b).toArray⟩ := by apply ByteArray.ext; simp [ByteArray.data_append]
theorem cat47 (a : List UInt8) : ByteArray.mk a.toArray ++ ByteArray.mk #[47] = ⟨(a ++ [47]).toArray⟩ := cat a [47]

theorem refJoin_any (ns : List (List UInt8)) (v : Value) (w : World) (hv : Strs w v ns) (hl : ns.length ≤ 1000000) (hj : (tailB ns).length ≤ 100000000) :
    Calls Tryz.prog 119 #[v] w fun e w' => e = .returned (.string ⟨(joinB ns).toArray⟩) ∧ w = w' := by
  obtain ⟨ad, ca, rfl, hm, HA0⟩ := hv
  have HA := Lib.hid HA0
  clear HA0 hm
  by_cases h0 : 0 < ns.length
  · have hne : ((ns.length : Int) == 0) = false := by rw [beq_eq_false_iff_ne]; omega
    have HJ := Lib.hid (joinB_tail (ns := ns) (by rintro rfl; simp at h0))
    go_enter Tryz.func119, Tryz.ntmps119
    go_wp2
    go_loop [3, 4] (fun s i => ∃ k : Nat, k ≤ ns.length ∧ i = .int .i64 k ∧ s = .string ⟨(tailB (ns.take k)).toArray⟩) (fun _ i => ns.length - (intOf i).toNat)
    case atStart => exact ⟨0, Nat.zero_le _, rfl, rfl⟩
    case round =>
      obtain ⟨k, hk, rfl, rfl⟩ := hrel
      by_cases hlt : k < ns.length
      · obtain ⟨ba, oa, rfl, hba, hca⟩ := HA.out h0
        have c1 : w.cell? ⟨ba, oa + k, none⟩ = some (.string ⟨ns[k].toArray⟩) := hca k hlt
        clear hca
        have HN : Hid (tailB (ns.take (k + 1)) = tailB (ns.take k) ++ 47 :: ns[k]) := by (show _ = _); rw [List.take_succ_eq_append_getElem hlt, tailB_snoc]
        have hlen := Nat.le_trans (tailB_take ns (k + 1)) hj
        rw [HN.out, List.length_append, List.length_cons] at hlen
        go_wp2
        go_round
        case rel => exact ⟨k + 1, by omega, by go_num, by rw [HN.out, cat47, cat]; simp⟩
        case measure => simp [intOf]; omega
      · obtain rfl : k = ns.length := by omega
        rw [List.take_length]
        go_wp2
        go_ret
        exact ⟨ret_str (by rw [HJ.out]), rfl⟩
  · obtain rfl : ns = [] := List.eq_nil_of_length_eq_zero (by omega)
    go_enter Tryz.func119, Tryz.ntmps119
    go_wp2
    go_ret
    exact ⟨rfl, rfl⟩

theorem interB_nextR (ns : List (List UInt8)) (k : Nat) (h : k < ns.length) : interB (ns.take (k + 1)) = if k = 0 then ns[k] else interB (ns.take k) ++ 47 :: ns[k] := by
  rw [List.take_succ_eq_append_getElem h, interB_snoc]
  by_cases hk : k = 0
  · subst hk; simp
  · rw [if_neg hk, if_neg (by cases ns <;> cases k <;> simp_all)]

end Go.Proofs.YtobepdmpacdakaaGreat

/-
  DERIVED: THE SHELF's CONTRACTS AT THIS DUMP, IN PLAIN WORDS (tools/lay-plain.mjs out of 'TryzShelf.lean', which tools/lay-shelf.mjs wrote): THE SAME DECLARATIONS UNDER THE SAME NAMES: 'import', 'namespace', 'open', 'def', 'theorem' AND NOTHING ELSE: no command of the shelf's: FOR A HAND-IN. Each laying: the table of numbers ('.._ren') and one theorem, a field a fact of the dump's own or the kernel's comparison; each contract: ONE APPLICATION.
-/
namespace Go.Proofs
open Go.Shelf
def Tryz.lays169_ren : Go.Shelf.Ren := ⟨fun | 169 => 135 | n => n, fun | 70 => 151 | 9 => 9 | 0 => 0 | 72 => 153 | 37 => 117 | 127 => 118 | 3 => 3 | 5 => 5 | n => n, fun | n => n⟩
theorem Tryz.lays169 : Go.Proofs.Lays.n169 Tryz.prog Tryz.lays169_ren := {
  mixed := by kernel_rfl
  f169 := Tryz.func135.trans (congrArg some (by kernel_rfl))
  t0 := Tryz.underlying0
  a0 := Tryz.isAgg0
  z0 := Tryz.sizeOf0
  v0 := Tryz.zeroValue0
  t3 := Tryz.underlying3
  a3 := Tryz.isAgg3
  z3 := Tryz.sizeOf3
  v3 := Tryz.zeroValue3
  t9 := Tryz.underlying9
  a9 := Tryz.isAgg9
  z9 := Tryz.sizeOf9
  v9 := Tryz.zeroValue9
  t37 := Tryz.underlying117
  a37 := Tryz.isAgg117
  z37 := Tryz.sizeOf117
  v37 := Tryz.zeroValue117
  t70 := Tryz.underlying151
  a70 := Tryz.isAgg151
  z70 := Tryz.sizeOf151
  v70 := Tryz.zeroValue151
  t72 := Tryz.underlying153
  a72 := Tryz.isAgg153
  z72 := Tryz.sizeOf153
  v72 := Tryz.zeroValue153
  t127 := Tryz.underlying118
  a127 := Tryz.isAgg118
  z127 := Tryz.sizeOf118
  v127 := Tryz.zeroValue118 }
theorem Tryz.Builder_Extra_169 : Builder.Extra Tryz.prog Tryz.lays169_ren := {
  sizeBuilder := by kernel_rfl
  liesBuilder := by kernel_rfl
  t5 := Tryz.underlying5
  a5 := Tryz.isAgg5
  z5 := Tryz.sizeOf5
  v5 := Tryz.zeroValue5
  infoByte := by kernel_rfl
  cellsByte := by kernel_rfl
  sizeByte := by kernel_rfl
  neB5 := by decide }
open Go.RowKit in
/-- (*strings.Builder).String: "String returns the accumulated string.": OF A BUILDER THAT HOLDS AT LEAST ONE BYTE. ✋ THE MODEL FREEZES THOSE BYTES IN THE BUFFER (unsafe.String): a later write INTO them ends the model's run without an answer; a later append BEHIND them goes on. The statement's order of evaluation is drawn: one draw. (LAID: no walk: one application.) -/
theorem Tryz.Builder_String (B b : Nat) (l : List UInt8) (w : World) (h : Lib.IsBuilder 153 5 B b (Lib.byteCells l) w) (h0 : l ≠ []) :
    Calls Tryz.prog 135 #[.pointer (some ⟨b, 0, none⟩)] w fun e w' => e = .returned (.string ⟨l.toArray⟩) ∧ Below B w w' := Any.Builder_String Tryz.lays169 Tryz.Builder_Extra_169 B b l w h h0
open Go.RowKit in
/-- (*strings.Builder).String OF A BUILDER THAT HOLDS NO BYTE: the empty string. (Its buffer is nil, or a row of which it has taken nothing yet; where that row has NO capacity the model lays one new block for unsafe.SliceData's 'some address'.) One draw. (LAID: no walk: one application.) -/
theorem Tryz.Builder_String_empty (B b : Nat) (w : World) (h : Lib.IsBuilder 153 5 B b [] w) (hBw : B ≤ w.heap.size) :
    Calls Tryz.prog 135 #[.pointer (some ⟨b, 0, none⟩)] w fun e w' => e = .returned (.string ⟨#[]⟩) ∧ Below B w w' := Any.Builder_String_empty Tryz.lays169 Tryz.Builder_Extra_169 B b w h hBw
open Go.RowKit in
/-- (*strings.Builder).String: "String returns the accumulated string.": WHATEVER THE BUILDER HOLDS. (LAID: no walk: one application.) -/
theorem Tryz.Builder_String_any (B b : Nat) (l : List UInt8) (w : World) (h : Lib.IsBuilder 153 5 B b (Lib.byteCells l) w) (hBw : B ≤ w.heap.size) :
    Calls Tryz.prog 135 #[.pointer (some ⟨b, 0, none⟩)] w fun e w' => e = .returned (.string ⟨l.toArray⟩) ∧ Below B w w' := Any.Builder_String_any Tryz.lays169 Tryz.Builder_Extra_169 B b l w h hBw
def Tryz.lays119_ren : Go.Shelf.Ren := ⟨fun | 119 => 121 | n => n, fun | 21 => 21 | 4 => 4 | n => n, fun | n => n⟩
theorem Tryz.lays119 : Go.Proofs.Lays.n119 Tryz.prog Tryz.lays119_ren := {
  mixed := by kernel_rfl
  f119 := Tryz.func121.trans (congrArg some (by kernel_rfl))
  t4 := Tryz.underlying4
  a4 := Tryz.isAgg4
  z4 := Tryz.sizeOf4
  v4 := Tryz.zeroValue4
  t21 := Tryz.underlying21
  a21 := Tryz.isAgg21
  z21 := Tryz.sizeOf21
  v21 := Tryz.zeroValue21 }
/-- utf8.ValidRune: "ValidRune reports whether r can be legally encoded as UTF-8. Code points that are out of range or a surrogate half are illegal.": IT RETURNS 'Lib.validRune r'; the world is as it was. (LAID: no walk: one application.) -/
theorem Tryz.utf8_ValidRune (r : Int) (w : World) :
    Calls Tryz.prog 121 #[.int .i32 r] w fun e w' => e = .returned (.bool (Lib.validRune r)) ∧ w' = w := Any.utf8_ValidRune Tryz.lays119 r w
def Tryz.lays213_ren : Go.Shelf.Ren := ⟨fun | 213 => 130 | 265 => 132 | n => n, fun | 9 => 9 | 3 => 3 | n => n, fun | n => n⟩
theorem Tryz.lays213 : Go.Proofs.Lays.n213 Tryz.prog Tryz.lays213_ren := {
  mixed := by kernel_rfl
  f213 := Tryz.func130.trans (congrArg some (by kernel_rfl))
  f265 := Tryz.func132.trans (congrArg some (by kernel_rfl))
  t3 := Tryz.underlying3
  a3 := Tryz.isAgg3
  z3 := Tryz.sizeOf3
  v3 := Tryz.zeroValue3
  t9 := Tryz.underlying9
  a9 := Tryz.isAgg9
  z9 := Tryz.sizeOf9
  v9 := Tryz.zeroValue9 }
open Go.RowKit in
/-- internal/bytealg.CompareString (what strings.Compare calls): IT RETURNS 'Lib.compareBytes a b'; the world is as it was. (LAID: no walk: one application.) -/
theorem Tryz.bytealg_CompareString (a b : ByteArray) (w : World) :
    Calls Tryz.prog 130 #[.string a, .string b] w fun e w' => e = .returned (.int .i64 (Lib.compareBytes a.data.toList b.data.toList)) ∧ w' = w := Any.bytealg_CompareString Tryz.lays213 a b w
def Tryz.lays106_ren : Go.Shelf.Ren := ⟨fun | 106 => 126 | 213 => 130 | 265 => 132 | n => n, fun | 9 => 9 | 3 => 3 | n => n, fun | n => n⟩
theorem Tryz.lays106 : Go.Proofs.Lays.n106 Tryz.prog Tryz.lays106_ren := {
  mixed := by kernel_rfl
  f106 := Tryz.func126.trans (congrArg some (by kernel_rfl))
  f213 := Tryz.func130.trans (congrArg some (by kernel_rfl))
  f265 := Tryz.func132.trans (congrArg some (by kernel_rfl))
  t3 := Tryz.underlying3
  a3 := Tryz.isAgg3
  z3 := Tryz.sizeOf3
  v3 := Tryz.zeroValue3
  t9 := Tryz.underlying9
  a9 := Tryz.isAgg9
  z9 := Tryz.sizeOf9
  v9 := Tryz.zeroValue9 }
open Go.RowKit in
/-- strings.Compare: "Compare returns an integer comparing two strings lexicographically. The result will be 0 if a == b, -1 if a < b, and +1 if a > b.": IT RETURNS 'Lib.compareBytes a b'; the world is as it was. (LAID: no walk: one application.) -/
theorem Tryz.strings_Compare (a b : ByteArray) (w : World) :
    Calls Tryz.prog 126 #[.string a, .string b] w fun e w' => e = .returned (.int .i64 (Lib.compareBytes a.data.toList b.data.toList)) ∧ w' = w := Any.strings_Compare Tryz.lays106 a b w
def Tryz.lays137_ren : Go.Shelf.Ren := ⟨fun | 137 => 120 | 217 => 115 | 266 => 128 | n => n, fun | 9 => 9 | 5 => 5 | 3 => 3 | n => n, fun | n => n⟩
theorem Tryz.lays137 : Go.Proofs.Lays.n137 Tryz.prog Tryz.lays137_ren := {
  mixed := by kernel_rfl
  f137 := Tryz.func120.trans (congrArg some (by kernel_rfl))
  f217 := Tryz.func115.trans (congrArg some (by kernel_rfl))
  f266 := Tryz.func128.trans (congrArg some (by kernel_rfl))
  t3 := Tryz.underlying3
  a3 := Tryz.isAgg3
  z3 := Tryz.sizeOf3
  v3 := Tryz.zeroValue3
  t5 := Tryz.underlying5
  a5 := Tryz.isAgg5
  z5 := Tryz.sizeOf5
  v5 := Tryz.zeroValue5
  t9 := Tryz.underlying9
  a9 := Tryz.isAgg9
  z9 := Tryz.sizeOf9
  v9 := Tryz.zeroValue9 }
open Go.RowKit in
/-- strings.IndexByte: "IndexByte returns the index of the first instance of c in s, or -1 if c is not present in s.": IT RETURNS 'Lib.indexByte s c'; the world is as it was. (LAID: no walk: one application.) -/
theorem Tryz.strings_IndexByte (s : ByteArray) (c : Int) (w : World) :
    Calls Tryz.prog 120 #[.string s, .int .u8 c] w fun e w' => e = .returned (.int .i64 (Lib.indexByte s.data.toList c.toNat.toUInt8)) ∧ w' = w := Any.strings_IndexByte Tryz.lays137 s c w
def Tryz.lays215_ren : Go.Shelf.Ren := ⟨fun | 215 => 123 | n => n, fun | 3 => 3 | 4 => 4 | n => n, fun | n => n⟩
theorem Tryz.lays215 : Go.Proofs.Lays.n215 Tryz.prog Tryz.lays215_ren := {
  mixed := by kernel_rfl
  f215 := Tryz.func123.trans (congrArg some (by kernel_rfl))
  t3 := Tryz.underlying3
  a3 := Tryz.isAgg3
  z3 := Tryz.sizeOf3
  v3 := Tryz.zeroValue3
  t4 := Tryz.underlying4
  a4 := Tryz.isAgg4
  z4 := Tryz.sizeOf4
  v4 := Tryz.zeroValue4 }
open Go.RowKit in
/-- cmp.isNaN at int: 'x != x': false. (LAID: no walk: one application.) -/
theorem Tryz.cmp_isNaN_int (x : Int) (w : World) :
    Calls Tryz.prog 123 #[.int .i64 x] w fun e w' => e = .returned (.bool false) ∧ w' = w := Any.cmp_isNaN_int Tryz.lays215 x w
def Tryz.lays122_ren : Go.Shelf.Ren := ⟨fun | 122 => 110 | 215 => 123 | n => n, fun | 3 => 3 | 4 => 4 | n => n, fun | n => n⟩
theorem Tryz.lays122 : Go.Proofs.Lays.n122 Tryz.prog Tryz.lays122_ren := {
  mixed := by kernel_rfl
  f122 := Tryz.func110.trans (congrArg some (by kernel_rfl))
  f215 := Tryz.func123.trans (congrArg some (by kernel_rfl))
  t3 := Tryz.underlying3
  a3 := Tryz.isAgg3
  z3 := Tryz.sizeOf3
  v3 := Tryz.zeroValue3
  t4 := Tryz.underlying4
  a4 := Tryz.isAgg4
  z4 := Tryz.sizeOf4
  v4 := Tryz.zeroValue4 }
open Go.RowKit in
/-- cmp.Compare at int: "Compare returns -1 if x is less than y, 0 if x equals y, +1 if x is greater than y.": IT RETURNS 'Lib.compareInt x y'; the world is as it was. (LAID: no walk: one application.) -/
theorem Tryz.cmp_Compare_int (x y : Int) (w : World) :
    Calls Tryz.prog 110 #[.int .i64 x, .int .i64 y] w fun e w' => e = .returned (.int .i64 (Lib.compareInt x y)) ∧ w' = w := Any.cmp_Compare_int Tryz.lays122 x y w
open Go.RowKit in
/-- (*strings.Builder).String: "String returns the accumulated string.": OF A BUILDER THAT HOLDS AT LEAST ONE BYTE. ✋ THE MODEL FREEZES THOSE BYTES IN THE BUFFER (unsafe.String): a later write INTO them ends the model's run without an answer; a later append BEHIND them goes on. The statement's order of evaluation is drawn: one draw. THE FORM '_f': IT SAYS BESIDES THAT THE BUILDER IS A BUILDER STILL ('Lib.IsBuilderF', the same bytes): SO IT CAN BE WRITTEN ON: 'b.WriteString(b.String()[:k])'. (LAID: no walk: one application.) -/
theorem Tryz.Builder_String_f (B b : Nat) (l : List UInt8) (w : World) (h : Lib.IsBuilderF 153 5 B b (Lib.byteCells l) w) (h0 : l ≠ []) :
    Calls Tryz.prog 135 #[.pointer (some ⟨b, 0, none⟩)] w fun e w' => e = .returned (.string ⟨l.toArray⟩) ∧ (Lib.IsBuilderF 153 5 B b (Lib.byteCells l) w' ∧ Below B w w') := Any.Builder_String_f Tryz.lays169 Tryz.Builder_Extra_169 B b l w h h0
open Go.RowKit in
/-- (*strings.Builder).String OF A BUILDER THAT HOLDS NO BYTE: the empty string; THE FORM '_f': a builder still. (LAID: no walk: one application.) -/
theorem Tryz.Builder_String_empty_f (B b : Nat) (w : World) (h : Lib.IsBuilderF 153 5 B b [] w) (hBw : B ≤ w.heap.size) :
    Calls Tryz.prog 135 #[.pointer (some ⟨b, 0, none⟩)] w fun e w' => e = .returned (.string ⟨#[]⟩) ∧ (Lib.IsBuilderF 153 5 B b [] w' ∧ Below B w w') := Any.Builder_String_empty_f Tryz.lays169 Tryz.Builder_Extra_169 B b w h hBw
open Go.RowKit in
/-- (*strings.Builder).String: "String returns the accumulated string.": WHATEVER THE BUILDER HOLDS; THE FORM '_f': OF A BUILDER THAT MAY HAVE BEEN READ BEFORE; AND IT IS A BUILDER STILL, holding the same bytes: it can be written on. (LAID: no walk: one application.) -/
theorem Tryz.Builder_String_any_f (B b : Nat) (l : List UInt8) (w : World) (h : Lib.IsBuilderF 153 5 B b (Lib.byteCells l) w) (hBw : B ≤ w.heap.size) :
    Calls Tryz.prog 135 #[.pointer (some ⟨b, 0, none⟩)] w fun e w' => e = .returned (.string ⟨l.toArray⟩) ∧ (Lib.IsBuilderF 153 5 B b (Lib.byteCells l) w' ∧ Below B w w') := Any.Builder_String_any_f Tryz.lays169 Tryz.Builder_Extra_169 B b l w h hBw
open Go.RowKit in
/-- (*strings.Builder).String: "String returns the accumulated string.": OF A BUILDER THAT HOLDS AT LEAST ONE BYTE. ✋ THE MODEL FREEZES THOSE BYTES IN THE BUFFER (unsafe.String): a later write INTO them ends the model's run without an answer; a later append BEHIND them goes on. The statement's order of evaluation is drawn: one draw. THE FORM '_k': OVER 'Lib.IsBuilderF' (a builder that 'String()' may have read), AND WITH THE FRAME THAT REACHES ABOVE THE BUILDER: 'Lib.OthersKept': every block that is not b and is no row of uint8's stands as it stood: the iterator of a range among them. (LAID: no walk: one application.) -/
theorem Tryz.Builder_String_k (B b : Nat) (l : List UInt8) (w : World) (h : Lib.IsBuilderF 153 5 B b (Lib.byteCells l) w) (h0 : l ≠ []) :
    Calls Tryz.prog 135 #[.pointer (some ⟨b, 0, none⟩)] w fun e w' => e = .returned (.string ⟨l.toArray⟩) ∧ (Lib.IsBuilderF 153 5 B b (Lib.byteCells l) w' ∧ Below B w w' ∧ Lib.OthersKept 5 (some b) w w') := Any.Builder_String_k Tryz.lays169 Tryz.Builder_Extra_169 B b l w h h0
open Go.RowKit in
/-- (*strings.Builder).String OF A BUILDER THAT HOLDS NO BYTE: the empty string; THE FORM '_k': OVER 'Lib.IsBuilderF' (a builder that 'String()' may have read), AND WITH THE FRAME THAT REACHES ABOVE THE BUILDER: 'Lib.OthersKept': every block that is not b and is no row of uint8's stands as it stood: the iterator of a range among them. (LAID: no walk: one application.) -/
theorem Tryz.Builder_String_empty_k (B b : Nat) (w : World) (h : Lib.IsBuilderF 153 5 B b [] w) (hBw : B ≤ w.heap.size) :
    Calls Tryz.prog 135 #[.pointer (some ⟨b, 0, none⟩)] w fun e w' => e = .returned (.string ⟨#[]⟩) ∧ (Lib.IsBuilderF 153 5 B b [] w' ∧ Below B w w' ∧ Lib.OthersKept 5 (some b) w w') := Any.Builder_String_empty_k Tryz.lays169 Tryz.Builder_Extra_169 B b w h hBw
open Go.RowKit in
/-- (*strings.Builder).String: "String returns the accumulated string.": WHATEVER THE BUILDER HOLDS; THE FORM '_k': OVER 'Lib.IsBuilderF' (a builder that 'String()' may have read), AND WITH THE FRAME THAT REACHES ABOVE THE BUILDER: 'Lib.OthersKept': every block that is not b and is no row of uint8's stands as it stood: the iterator of a range among them. (LAID: no walk: one application.) -/
theorem Tryz.Builder_String_any_k (B b : Nat) (l : List UInt8) (w : World) (h : Lib.IsBuilderF 153 5 B b (Lib.byteCells l) w) (hBw : B ≤ w.heap.size) :
    Calls Tryz.prog 135 #[.pointer (some ⟨b, 0, none⟩)] w fun e w' => e = .returned (.string ⟨l.toArray⟩) ∧ (Lib.IsBuilderF 153 5 B b (Lib.byteCells l) w' ∧ Below B w w' ∧ Lib.OthersKept 5 (some b) w w') := Any.Builder_String_any_k Tryz.lays169 Tryz.Builder_Extra_169 B b l w h hBw
def Tryz.laysM316_ren : Go.Shelf.Ren := ⟨fun | 316 => 84 | n => n, fun | 9 => 9 | 3 => 3 | 4 => 4 | 37 => 117 | 0 => 0 | 127 => 118 | 5 => 5 | n => n, fun | n => n⟩
theorem Tryz.laysM316 : Go.Proofs.LaysM.n316 Tryz.prog Tryz.laysM316_ren := {
  mixed := by kernel_rfl
  f316 := Tryz.func84.trans (congrArg some (by kernel_rfl))
  t0 := Tryz.underlying0
  a0 := Tryz.isAgg0
  z0 := Tryz.sizeOf0
  v0 := Tryz.zeroValue0
  t3 := Tryz.underlying3
  a3 := Tryz.isAgg3
  z3 := Tryz.sizeOf3
  v3 := Tryz.zeroValue3
  t4 := Tryz.underlying4
  a4 := Tryz.isAgg4
  z4 := Tryz.sizeOf4
  v4 := Tryz.zeroValue4
  t9 := Tryz.underlying9
  a9 := Tryz.isAgg9
  z9 := Tryz.sizeOf9
  v9 := Tryz.zeroValue9
  t37 := Tryz.underlying117
  a37 := Tryz.isAgg117
  z37 := Tryz.sizeOf117
  v37 := Tryz.zeroValue117
  t127 := Tryz.underlying118
  a127 := Tryz.isAgg118
  z127 := Tryz.sizeOf118
  v127 := Tryz.zeroValue118
  t5 := Tryz.underlying5
  a5 := Tryz.isAgg5
  z5 := Tryz.sizeOf5
  v5 := Tryz.zeroValue5
  i0 := by kernel_rfl
  i3 := by kernel_rfl
  i4 := by kernel_rfl
  i5 := by kernel_rfl
  i9 := by kernel_rfl
  i37 := by kernel_rfl
  i127 := by kernel_rfl }
open Go.RowKit in
/-- internal/stringslite.Clone (what strings.Clone calls): "Clone returns a fresh copy of s.": THE SAME BYTES. Of what was there nothing has turned (a new row is laid, and frozen, where s is not empty). (LAID: no walk: one application.) -/
theorem Tryz.stringslite_Clone (s : ByteArray) (w : World) (hlim : s.size ≤ 281474976710656) :
    Calls Tryz.prog 84 #[.string s] w fun e w' => e = .returned (.string s) ∧ Below w.heap.size w w' := Any.stringslite_Clone Tryz.laysM316 s w hlim
def Tryz.lays217_ren : Go.Shelf.Ren := ⟨fun | 217 => 115 | 266 => 128 | n => n, fun | 9 => 9 | 5 => 5 | 3 => 3 | n => n, fun | n => n⟩
theorem Tryz.lays217 : Go.Proofs.Lays.n217 Tryz.prog Tryz.lays217_ren := {
  mixed := by kernel_rfl
  f217 := Tryz.func115.trans (congrArg some (by kernel_rfl))
  f266 := Tryz.func128.trans (congrArg some (by kernel_rfl))
  t3 := Tryz.underlying3
  a3 := Tryz.isAgg3
  z3 := Tryz.sizeOf3
  v3 := Tryz.zeroValue3
  t5 := Tryz.underlying5
  a5 := Tryz.isAgg5
  z5 := Tryz.sizeOf5
  v5 := Tryz.zeroValue5
  t9 := Tryz.underlying9
  a9 := Tryz.isAgg9
  z9 := Tryz.sizeOf9
  v9 := Tryz.zeroValue9 }
open Go.RowKit Go.Lib in
/-- internal/stringslite.IndexByte (what strings.IndexByte calls): IT RETURNS 'Lib.indexByte s c'; the world is as it was. (LAID: no walk: one application.) -/
theorem Tryz.stringslite_IndexByte (s : ByteArray) (c : Int) (w : World) :
    Calls Tryz.prog 115 #[.string s, .int .u8 c] w fun e w' => e = .returned (.int .i64 (Lib.indexByte s.data.toList c.toNat.toUInt8)) ∧ w' = w := Any.stringslite_IndexByte Tryz.lays217 s c w
def Tryz.lays224_ren : Go.Shelf.Ren := ⟨fun | 224 => 117 | n => n, fun | 3 => 3 | n => n, fun | n => n⟩
theorem Tryz.lays224 : Go.Proofs.Lays.n224 Tryz.prog Tryz.lays224_ren := {
  mixed := by kernel_rfl
  f224 := Tryz.func117.trans (congrArg some (by kernel_rfl))
  t3 := Tryz.underlying3
  a3 := Tryz.isAgg3
  z3 := Tryz.sizeOf3
  v3 := Tryz.zeroValue3 }
open Go.RowKit Go.Lib in
/-- internal/bytealg.Cutover: "Cutover reports the number of failures of IndexByte we should tolerate before switching over to Index. n is the number of bytes processed so far.": on amd64: (n + 16) / 8. (LAID: no walk: one application.) -/
theorem Tryz.bytealg_Cutover (n : Int) (h0 : 0 ≤ n) (h1 : n < 4611686018427387904) (w : World) :
    Calls Tryz.prog 117 #[.int .i64 n] w fun e w' => e = .returned (.int .i64 ((n + 16) / 8)) ∧ w' = w := Any.bytealg_Cutover Tryz.lays224 n h0 h1 w
def Tryz.lays314_ren : Go.Shelf.Ren := ⟨fun | 314 => 129 | n => n, fun | 9 => 9 | 51 => 146 | 3 => 3 | 4 => 4 | 5 => 5 | 46 => 139 | n => n, fun | n => n⟩
theorem Tryz.lays314 : Go.Proofs.Lays.n314 Tryz.prog Tryz.lays314_ren := {
  mixed := by kernel_rfl
  f314 := Tryz.func129.trans (congrArg some (by kernel_rfl))
  t3 := Tryz.underlying3
  a3 := Tryz.isAgg3
  z3 := Tryz.sizeOf3
  v3 := Tryz.zeroValue3
  t4 := Tryz.underlying4
  a4 := Tryz.isAgg4
  z4 := Tryz.sizeOf4
  v4 := Tryz.zeroValue4
  t5 := Tryz.underlying5
  a5 := Tryz.isAgg5
  z5 := Tryz.sizeOf5
  v5 := Tryz.zeroValue5
  t9 := Tryz.underlying9
  a9 := Tryz.isAgg9
  z9 := Tryz.sizeOf9
  v9 := Tryz.zeroValue9
  t46 := Tryz.underlying139
  a46 := Tryz.isAgg139
  z46 := Tryz.sizeOf139
  v46 := Tryz.zeroValue139
  t51 := Tryz.underlying146
  a51 := Tryz.isAgg146
  z51 := Tryz.sizeOf146
  v51 := Tryz.zeroValue146 }
open Go.RowKit Go.Lib in
/-- hashStr: "returns the hash and the appropriate multiplicative factor for use in Rabin-Karp algorithm": THE HASH OF ALL OF sep, AND 16777619 ^ len(sep), both in uint32. (LAID: no walk: one application.) -/
theorem Tryz.bytealg_hashStr (sep : ByteArray) (hs : sep.size < 4294967281) (w : World) :
    Calls Tryz.prog 129 #[.string sep] w fun e w' => e = .returned (.tuple #[.int .u32 (RK.H sep.data.toList % 4294967296), .int .u32 (16777619 ^ sep.size % 4294967296)]) ∧ w' = w := Any.bytealg_hashStr Tryz.lays314 sep hs w
def Tryz.lays267_ren : Go.Shelf.Ren := ⟨fun | 267 => 118 | 314 => 129 | n => n, fun | 9 => 9 | 3 => 3 | 146 => 147 | 51 => 146 | 4 => 4 | 5 => 5 | 46 => 139 | n => n, fun | n => n⟩
theorem Tryz.lays267 : Go.Proofs.Lays.n267 Tryz.prog Tryz.lays267_ren := {
  mixed := by kernel_rfl
  f267 := Tryz.func118.trans (congrArg some (by kernel_rfl))
  f314 := Tryz.func129.trans (congrArg some (by kernel_rfl))
  t3 := Tryz.underlying3
  a3 := Tryz.isAgg3
  z3 := Tryz.sizeOf3
  v3 := Tryz.zeroValue3
  t4 := Tryz.underlying4
  a4 := Tryz.isAgg4
  z4 := Tryz.sizeOf4
  v4 := Tryz.zeroValue4
  t5 := Tryz.underlying5
  a5 := Tryz.isAgg5
  z5 := Tryz.sizeOf5
  v5 := Tryz.zeroValue5
  t9 := Tryz.underlying9
  a9 := Tryz.isAgg9
  z9 := Tryz.sizeOf9
  v9 := Tryz.zeroValue9
  t46 := Tryz.underlying139
  a46 := Tryz.isAgg139
  z46 := Tryz.sizeOf139
  v46 := Tryz.zeroValue139
  t51 := Tryz.underlying146
  a51 := Tryz.isAgg146
  z51 := Tryz.sizeOf146
  v51 := Tryz.zeroValue146
  t146 := Tryz.underlying147
  a146 := Tryz.isAgg147
  z146 := Tryz.sizeOf147
  v146 := Tryz.zeroValue147 }
open Go.RowKit Go.Lib in
theorem Tryz.bytealg_IndexRabinKarp (s sep : ByteArray) (h1 : 1 ≤ sep.size) (h2 : sep.size ≤ s.size) (hs : s.size < 4294967281) (w : World) :
    Calls Tryz.prog 118 #[.string s, .string sep] w fun e w' => e = .returned (.int .i64 (Lib.index s.data.toList sep.data.toList)) ∧ w' = w := Any.bytealg_IndexRabinKarp Tryz.lays267 s sep h1 h2 hs w
def Tryz.lays219_ren : Go.Shelf.Ren := ⟨fun | 219 => 101 | 217 => 115 | 225 => 116 | 224 => 117 | 267 => 118 | 266 => 128 | 314 => 129 | n => n, fun | 9 => 9 | 3 => 3 | 4 => 4 | 5 => 5 | 46 => 139 | 146 => 147 | 51 => 146 | n => n, fun | 1 => 0 | n => n⟩
theorem Tryz.lays219 : Go.Proofs.Lays.n219 Tryz.prog Tryz.lays219_ren := {
  mixed := by kernel_rfl
  f217 := Tryz.func115.trans (congrArg some (by kernel_rfl))
  f219 := Tryz.func101.trans (congrArg some (by kernel_rfl))
  f224 := Tryz.func117.trans (congrArg some (by kernel_rfl))
  f225 := Tryz.func116.trans (congrArg some (by kernel_rfl))
  f266 := Tryz.func128.trans (congrArg some (by kernel_rfl))
  f267 := Tryz.func118.trans (congrArg some (by kernel_rfl))
  f314 := Tryz.func129.trans (congrArg some (by kernel_rfl))
  t3 := Tryz.underlying3
  a3 := Tryz.isAgg3
  z3 := Tryz.sizeOf3
  v3 := Tryz.zeroValue3
  t4 := Tryz.underlying4
  a4 := Tryz.isAgg4
  z4 := Tryz.sizeOf4
  v4 := Tryz.zeroValue4
  t5 := Tryz.underlying5
  a5 := Tryz.isAgg5
  z5 := Tryz.sizeOf5
  v5 := Tryz.zeroValue5
  t9 := Tryz.underlying9
  a9 := Tryz.isAgg9
  z9 := Tryz.sizeOf9
  v9 := Tryz.zeroValue9
  t46 := Tryz.underlying139
  a46 := Tryz.isAgg139
  z46 := Tryz.sizeOf139
  v46 := Tryz.zeroValue139
  t51 := Tryz.underlying146
  a51 := Tryz.isAgg146
  z51 := Tryz.sizeOf146
  v51 := Tryz.zeroValue146
  t146 := Tryz.underlying147
  a146 := Tryz.isAgg147
  z146 := Tryz.sizeOf147
  v146 := Tryz.zeroValue147
  g1 := by kernel_rfl }
open Go.RowKit Go.Lib in
/-- internal/stringslite.Index (what strings.Index calls) AT A substr OF ONE BYTE c: IT RETURNS 'Lib.indexByte s c'; the world is as it was. (LAID: no walk: one application.) -/
theorem Tryz.stringslite_Index_one (s : ByteArray) (c : UInt8) (w : World) :
    Calls Tryz.prog 101 #[.string s, .string ⟨#[c]⟩] w fun e w' => e = .returned (.int .i64 (Lib.indexByte s.data.toList c)) ∧ w' = w := Any.stringslite_Index_one Tryz.lays219 s c w
open Go.RowKit Go.Lib in
/-- internal/stringslite.Index (what strings.Index calls) AT A substr OF WHATEVER LENGTH: IT RETURNS 'Lib.index s substr'; the world is as it was. 'm': what internal/bytealg.MaxLen holds: whatever. (LAID: no walk: one application.) -/
theorem Tryz.stringslite_Index (s sub : ByteArray) (m : Int) (w : World) (hs : s.size < 4294967281) (hm : w.cell? ⟨0, 0, none⟩ = some (.int .i64 m)) :
    Calls Tryz.prog 101 #[.string s, .string sub] w fun e w' => e = .returned (.int .i64 (Lib.index s.data.toList sub.data.toList)) ∧ w' = w := Any.stringslite_Index Tryz.lays219 s sub m w hs hm
def Tryz.lays143_ren : Go.Shelf.Ren := ⟨fun | 143 => 86 | 219 => 101 | 217 => 115 | 225 => 116 | 224 => 117 | 267 => 118 | 266 => 128 | 314 => 129 | n => n, fun | 9 => 9 | 3 => 3 | 4 => 4 | 5 => 5 | 46 => 139 | 146 => 147 | 51 => 146 | n => n, fun | 1 => 0 | n => n⟩
theorem Tryz.lays143 : Go.Proofs.Lays.n143 Tryz.prog Tryz.lays143_ren := {
  mixed := by kernel_rfl
  f143 := Tryz.func86.trans (congrArg some (by kernel_rfl))
  f217 := Tryz.func115.trans (congrArg some (by kernel_rfl))
  f219 := Tryz.func101.trans (congrArg some (by kernel_rfl))
  f224 := Tryz.func117.trans (congrArg some (by kernel_rfl))
  f225 := Tryz.func116.trans (congrArg some (by kernel_rfl))
  f266 := Tryz.func128.trans (congrArg some (by kernel_rfl))
  f267 := Tryz.func118.trans (congrArg some (by kernel_rfl))
  f314 := Tryz.func129.trans (congrArg some (by kernel_rfl))
  t3 := Tryz.underlying3
  a3 := Tryz.isAgg3
  z3 := Tryz.sizeOf3
  v3 := Tryz.zeroValue3
  t4 := Tryz.underlying4
  a4 := Tryz.isAgg4
  z4 := Tryz.sizeOf4
  v4 := Tryz.zeroValue4
  t5 := Tryz.underlying5
  a5 := Tryz.isAgg5
  z5 := Tryz.sizeOf5
  v5 := Tryz.zeroValue5
  t9 := Tryz.underlying9
  a9 := Tryz.isAgg9
  z9 := Tryz.sizeOf9
  v9 := Tryz.zeroValue9
  t46 := Tryz.underlying139
  a46 := Tryz.isAgg139
  z46 := Tryz.sizeOf139
  v46 := Tryz.zeroValue139
  t51 := Tryz.underlying146
  a51 := Tryz.isAgg146
  z51 := Tryz.sizeOf146
  v51 := Tryz.zeroValue146
  t146 := Tryz.underlying147
  a146 := Tryz.isAgg147
  z146 := Tryz.sizeOf147
  v146 := Tryz.zeroValue147
  g1 := by kernel_rfl }
open Go.RowKit Go.Lib in
/-- strings.Index: "Index returns the index of the first instance of substr in s, or -1 if substr is not present in s.": AT A substr OF ONE BYTE c: IT RETURNS 'Lib.indexByte s c'; the world is as it was. (LAID: no walk: one application.) -/
theorem Tryz.strings_Index_one (s : ByteArray) (c : UInt8) (w : World) :
    Calls Tryz.prog 86 #[.string s, .string ⟨#[c]⟩] w fun e w' => e = .returned (.int .i64 (Lib.indexByte s.data.toList c)) ∧ w' = w := Any.strings_Index_one Tryz.lays143 s c w
open Go.RowKit Go.Lib in
/-- strings.Index: "Index returns the index of the first instance of substr in s, or -1 if substr is not present in s.": IT RETURNS 'Lib.index s substr'; the world is as it was. (LAID: no walk: one application.) -/
theorem Tryz.strings_Index (s sub : ByteArray) (m : Int) (w : World) (hs : s.size < 4294967281) (hm : w.cell? ⟨0, 0, none⟩ = some (.int .i64 m)) :
    Calls Tryz.prog 86 #[.string s, .string sub] w fun e w' => e = .returned (.int .i64 (Lib.index s.data.toList sub.data.toList)) ∧ w' = w := Any.strings_Index Tryz.lays143 s sub m w hs hm
def Tryz.lays144_ren : Go.Shelf.Ren := ⟨fun | 144 => 59 | 143 => 86 | 219 => 101 | 217 => 115 | 225 => 116 | 224 => 117 | 267 => 118 | 266 => 128 | 314 => 129 | n => n, fun | 9 => 9 | 4 => 4 | 3 => 3 | 5 => 5 | 46 => 139 | 146 => 147 | 51 => 146 | n => n, fun | 1 => 0 | n => n⟩
theorem Tryz.lays144 : Go.Proofs.Lays.n144 Tryz.prog Tryz.lays144_ren := {
  mixed := by kernel_rfl
  f143 := Tryz.func86.trans (congrArg some (by kernel_rfl))
  f144 := Tryz.func59.trans (congrArg some (by kernel_rfl))
  f217 := Tryz.func115.trans (congrArg some (by kernel_rfl))
  f219 := Tryz.func101.trans (congrArg some (by kernel_rfl))
  f224 := Tryz.func117.trans (congrArg some (by kernel_rfl))
  f225 := Tryz.func116.trans (congrArg some (by kernel_rfl))
  f266 := Tryz.func128.trans (congrArg some (by kernel_rfl))
  f267 := Tryz.func118.trans (congrArg some (by kernel_rfl))
  f314 := Tryz.func129.trans (congrArg some (by kernel_rfl))
  t3 := Tryz.underlying3
  a3 := Tryz.isAgg3
  z3 := Tryz.sizeOf3
  v3 := Tryz.zeroValue3
  t4 := Tryz.underlying4
  a4 := Tryz.isAgg4
  z4 := Tryz.sizeOf4
  v4 := Tryz.zeroValue4
  t5 := Tryz.underlying5
  a5 := Tryz.isAgg5
  z5 := Tryz.sizeOf5
  v5 := Tryz.zeroValue5
  t9 := Tryz.underlying9
  a9 := Tryz.isAgg9
  z9 := Tryz.sizeOf9
  v9 := Tryz.zeroValue9
  t46 := Tryz.underlying139
  a46 := Tryz.isAgg139
  z46 := Tryz.sizeOf139
  v46 := Tryz.zeroValue139
  t51 := Tryz.underlying146
  a51 := Tryz.isAgg146
  z51 := Tryz.sizeOf146
  v51 := Tryz.zeroValue146
  t146 := Tryz.underlying147
  a146 := Tryz.isAgg147
  z146 := Tryz.sizeOf147
  v146 := Tryz.zeroValue147
  g1 := by kernel_rfl }
open Go.RowKit Go.Lib in
/-- strings.Contains: "Contains reports whether substr is within s.": AT A substr OF ONE BYTE c: IT RETURNS 'decide (0 ≤ Lib.indexByte s c)'; the world is as it was. (LAID: no walk: one application.) -/
theorem Tryz.strings_Contains_one (s : ByteArray) (c : UInt8) (w : World) :
    Calls Tryz.prog 59 #[.string s, .string ⟨#[c]⟩] w fun e w' => e = .returned (.bool (decide (0 ≤ Lib.indexByte s.data.toList c))) ∧ w' = w := Any.strings_Contains_one Tryz.lays144 s c w
open Go.RowKit Go.Lib in
/-- strings.Contains: "Contains reports whether substr is within s.": IT RETURNS 'Lib.contains s substr'; the world is as it was. (LAID: no walk: one application.) -/
theorem Tryz.strings_Contains (s sub : ByteArray) (m : Int) (w : World) (hs : s.size < 4294967281) (hm : w.cell? ⟨0, 0, none⟩ = some (.int .i64 m)) :
    Calls Tryz.prog 59 #[.string s, .string sub] w fun e w' => e = .returned (.bool (Lib.contains s.data.toList sub.data.toList)) ∧ w' = w := Any.strings_Contains Tryz.lays144 s sub m w hs hm
def Tryz.lays220_ren : Go.Shelf.Ren := ⟨fun | 220 => 100 | 219 => 101 | 217 => 115 | 225 => 116 | 224 => 117 | 267 => 118 | 266 => 128 | 314 => 129 | n => n, fun | 9 => 9 | 4 => 4 | 3 => 3 | 5 => 5 | 46 => 139 | 146 => 147 | 51 => 146 | n => n, fun | 1 => 0 | n => n⟩
theorem Tryz.lays220 : Go.Proofs.Lays.n220 Tryz.prog Tryz.lays220_ren := {
  mixed := by kernel_rfl
  f217 := Tryz.func115.trans (congrArg some (by kernel_rfl))
  f219 := Tryz.func101.trans (congrArg some (by kernel_rfl))
  f220 := Tryz.func100.trans (congrArg some (by kernel_rfl))
  f224 := Tryz.func117.trans (congrArg some (by kernel_rfl))
  f225 := Tryz.func116.trans (congrArg some (by kernel_rfl))
  f266 := Tryz.func128.trans (congrArg some (by kernel_rfl))
  f267 := Tryz.func118.trans (congrArg some (by kernel_rfl))
  f314 := Tryz.func129.trans (congrArg some (by kernel_rfl))
  t3 := Tryz.underlying3
  a3 := Tryz.isAgg3
  z3 := Tryz.sizeOf3
  v3 := Tryz.zeroValue3
  t4 := Tryz.underlying4
  a4 := Tryz.isAgg4
  z4 := Tryz.sizeOf4
  v4 := Tryz.zeroValue4
  t5 := Tryz.underlying5
  a5 := Tryz.isAgg5
  z5 := Tryz.sizeOf5
  v5 := Tryz.zeroValue5
  t9 := Tryz.underlying9
  a9 := Tryz.isAgg9
  z9 := Tryz.sizeOf9
  v9 := Tryz.zeroValue9
  t46 := Tryz.underlying139
  a46 := Tryz.isAgg139
  z46 := Tryz.sizeOf139
  v46 := Tryz.zeroValue139
  t51 := Tryz.underlying146
  a51 := Tryz.isAgg146
  z51 := Tryz.sizeOf146
  v51 := Tryz.zeroValue146
  t146 := Tryz.underlying147
  a146 := Tryz.isAgg147
  z146 := Tryz.sizeOf147
  v146 := Tryz.zeroValue147
  g1 := by kernel_rfl }
open Go.RowKit Go.Lib in
/-- internal/stringslite.Cut (what strings.Cut calls): IT RETURNS 'Lib.cut s sep'; the world is as it was but for the count of draws. (LAID: no walk: one application.) -/
theorem Tryz.stringslite_Cut (s sep : ByteArray) (m : Int) (w : World) (hs : s.size < 4294967281) (hm : w.cell? ⟨0, 0, none⟩ = some (.int .i64 m)) :
    Calls Tryz.prog 100 #[.string s, .string sep] w fun e w' => e = .returned (.tuple #[.string ⟨(Lib.cut s.data.toList sep.data.toList).1.toArray⟩, .string ⟨(Lib.cut s.data.toList sep.data.toList).2.1.toArray⟩, .bool (Lib.cut s.data.toList sep.data.toList).2.2]) ∧ ∃ n, w' = w.drewN n := Any.stringslite_Cut Tryz.lays220 s sep m w hs hm
def Tryz.lays145_ren : Go.Shelf.Ren := ⟨fun | 145 => 83 | 220 => 100 | 219 => 101 | 217 => 115 | 225 => 116 | 224 => 117 | 267 => 118 | 266 => 128 | 314 => 129 | n => n, fun | 9 => 9 | 4 => 4 | 59 => 100 | 3 => 3 | 5 => 5 | 46 => 139 | 146 => 147 | 51 => 146 | n => n, fun | 1 => 0 | n => n⟩
theorem Tryz.lays145 : Go.Proofs.Lays.n145 Tryz.prog Tryz.lays145_ren := {
  mixed := by kernel_rfl
  f145 := Tryz.func83.trans (congrArg some (by kernel_rfl))
  f217 := Tryz.func115.trans (congrArg some (by kernel_rfl))
  f219 := Tryz.func101.trans (congrArg some (by kernel_rfl))
  f220 := Tryz.func100.trans (congrArg some (by kernel_rfl))
  f224 := Tryz.func117.trans (congrArg some (by kernel_rfl))
  f225 := Tryz.func116.trans (congrArg some (by kernel_rfl))
  f266 := Tryz.func128.trans (congrArg some (by kernel_rfl))
  f267 := Tryz.func118.trans (congrArg some (by kernel_rfl))
  f314 := Tryz.func129.trans (congrArg some (by kernel_rfl))
  t3 := Tryz.underlying3
  a3 := Tryz.isAgg3
  z3 := Tryz.sizeOf3
  v3 := Tryz.zeroValue3
  t4 := Tryz.underlying4
  a4 := Tryz.isAgg4
  z4 := Tryz.sizeOf4
  v4 := Tryz.zeroValue4
  t5 := Tryz.underlying5
  a5 := Tryz.isAgg5
  z5 := Tryz.sizeOf5
  v5 := Tryz.zeroValue5
  t9 := Tryz.underlying9
  a9 := Tryz.isAgg9
  z9 := Tryz.sizeOf9
  v9 := Tryz.zeroValue9
  t46 := Tryz.underlying139
  a46 := Tryz.isAgg139
  z46 := Tryz.sizeOf139
  v46 := Tryz.zeroValue139
  t51 := Tryz.underlying146
  a51 := Tryz.isAgg146
  z51 := Tryz.sizeOf146
  v51 := Tryz.zeroValue146
  t59 := Tryz.underlying100
  a59 := Tryz.isAgg100
  z59 := Tryz.sizeOf100
  v59 := Tryz.zeroValue100
  t146 := Tryz.underlying147
  a146 := Tryz.isAgg147
  z146 := Tryz.sizeOf147
  v146 := Tryz.zeroValue147
  g1 := by kernel_rfl }
open Go.RowKit Go.Lib in
/-- strings.Cut: "Cut slices s around the first instance of sep, returning the text before and after sep. The found result reports whether sep appears in s. If sep does not appear in s, cut returns s, "", false.": IT RETURNS 'Lib.cut s sep'; the world is as it was but for the count of draws. (LAID: no walk: one application.) -/
theorem Tryz.strings_Cut (s sep : ByteArray) (m : Int) (w : World) (hs : s.size < 4294967281) (hm : w.cell? ⟨0, 0, none⟩ = some (.int .i64 m)) :
    Calls Tryz.prog 83 #[.string s, .string sep] w fun e w' => e = .returned (.tuple #[.string ⟨(Lib.cut s.data.toList sep.data.toList).1.toArray⟩, .string ⟨(Lib.cut s.data.toList sep.data.toList).2.1.toArray⟩, .bool (Lib.cut s.data.toList sep.data.toList).2.2]) ∧ ∃ n, w' = w.drewN n := Any.strings_Cut Tryz.lays145 s sep m w hs hm
def Tryz.laysM219_ren : Go.Shelf.Ren := ⟨fun | 219 => 101 | 217 => 115 | 225 => 116 | 224 => 117 | 267 => 118 | 266 => 128 | 314 => 129 | n => n, fun | 9 => 9 | 3 => 3 | 4 => 4 | 5 => 5 | 46 => 139 | 146 => 147 | 51 => 146 | n => n, fun | 1 => 0 | n => n⟩
theorem Tryz.laysM219 : Go.Proofs.LaysM.n219 Tryz.prog Tryz.laysM219_ren := {
  mixed := by kernel_rfl
  f217 := Tryz.func115.trans (congrArg some (by kernel_rfl))
  f219 := Tryz.func101.trans (congrArg some (by kernel_rfl))
  f224 := Tryz.func117.trans (congrArg some (by kernel_rfl))
  f225 := Tryz.func116.trans (congrArg some (by kernel_rfl))
  f266 := Tryz.func128.trans (congrArg some (by kernel_rfl))
  f267 := Tryz.func118.trans (congrArg some (by kernel_rfl))
  f314 := Tryz.func129.trans (congrArg some (by kernel_rfl))
  t3 := Tryz.underlying3
  a3 := Tryz.isAgg3
  z3 := Tryz.sizeOf3
  v3 := Tryz.zeroValue3
  t4 := Tryz.underlying4
  a4 := Tryz.isAgg4
  z4 := Tryz.sizeOf4
  v4 := Tryz.zeroValue4
  t5 := Tryz.underlying5
  a5 := Tryz.isAgg5
  z5 := Tryz.sizeOf5
  v5 := Tryz.zeroValue5
  t9 := Tryz.underlying9
  a9 := Tryz.isAgg9
  z9 := Tryz.sizeOf9
  v9 := Tryz.zeroValue9
  t46 := Tryz.underlying139
  a46 := Tryz.isAgg139
  z46 := Tryz.sizeOf139
  v46 := Tryz.zeroValue139
  t51 := Tryz.underlying146
  a51 := Tryz.isAgg146
  z51 := Tryz.sizeOf146
  v51 := Tryz.zeroValue146
  t146 := Tryz.underlying147
  a146 := Tryz.isAgg147
  z146 := Tryz.sizeOf147
  v146 := Tryz.zeroValue147
  g1 := by kernel_rfl
  i3 := by kernel_rfl
  i4 := by kernel_rfl
  i5 := by kernel_rfl
  i9 := by kernel_rfl
  i46 := by kernel_rfl
  i51 := by kernel_rfl
  i146 := by kernel_rfl
  m1 := by kernel_rfl
  s1_3 := fun w h => Go.Proofs.cell_of_shapedOpen_int (zero := #[.int .i64 0]) (t := 3) h (of_decide_eq_true (by kernel_rfl)) (by kernel_rfl) rfl (by kernel_rfl) (by kernel_rfl) Tryz.underlying3 }
open Go.RowKit Go.Lib in
theorem Tryz.stringslite_Index_shaped (s sub : ByteArray) (w : World) (h : w.ShapedOpen Tryz.prog) (hs : s.size < 4294967281) :
    Calls Tryz.prog 101 #[.string s, .string sub] w fun e w' => e = .returned (.int .i64 (Lib.index s.data.toList sub.data.toList)) ∧ w' = w := Any.stringslite_Index_shaped Tryz.laysM219 s sub w h hs
def Tryz.laysM143_ren : Go.Shelf.Ren := ⟨fun | 143 => 86 | 219 => 101 | 217 => 115 | 225 => 116 | 224 => 117 | 267 => 118 | 266 => 128 | 314 => 129 | n => n, fun | 9 => 9 | 3 => 3 | 4 => 4 | 5 => 5 | 46 => 139 | 146 => 147 | 51 => 146 | n => n, fun | 1 => 0 | n => n⟩
theorem Tryz.laysM143 : Go.Proofs.LaysM.n143 Tryz.prog Tryz.laysM143_ren := {
  mixed := by kernel_rfl
  f143 := Tryz.func86.trans (congrArg some (by kernel_rfl))
  f217 := Tryz.func115.trans (congrArg some (by kernel_rfl))
  f219 := Tryz.func101.trans (congrArg some (by kernel_rfl))
  f224 := Tryz.func117.trans (congrArg some (by kernel_rfl))
  f225 := Tryz.func116.trans (congrArg some (by kernel_rfl))
  f266 := Tryz.func128.trans (congrArg some (by kernel_rfl))
  f267 := Tryz.func118.trans (congrArg some (by kernel_rfl))
  f314 := Tryz.func129.trans (congrArg some (by kernel_rfl))
  t3 := Tryz.underlying3
  a3 := Tryz.isAgg3
  z3 := Tryz.sizeOf3
  v3 := Tryz.zeroValue3
  t4 := Tryz.underlying4
  a4 := Tryz.isAgg4
  z4 := Tryz.sizeOf4
  v4 := Tryz.zeroValue4
  t5 := Tryz.underlying5
  a5 := Tryz.isAgg5
  z5 := Tryz.sizeOf5
  v5 := Tryz.zeroValue5
  t9 := Tryz.underlying9
  a9 := Tryz.isAgg9
  z9 := Tryz.sizeOf9
  v9 := Tryz.zeroValue9
  t46 := Tryz.underlying139
  a46 := Tryz.isAgg139
  z46 := Tryz.sizeOf139
  v46 := Tryz.zeroValue139
  t51 := Tryz.underlying146
  a51 := Tryz.isAgg146
  z51 := Tryz.sizeOf146
  v51 := Tryz.zeroValue146
  t146 := Tryz.underlying147
  a146 := Tryz.isAgg147
  z146 := Tryz.sizeOf147
  v146 := Tryz.zeroValue147
  g1 := by kernel_rfl
  i3 := by kernel_rfl
  i4 := by kernel_rfl
  i5 := by kernel_rfl
  i9 := by kernel_rfl
  i46 := by kernel_rfl
  i51 := by kernel_rfl
  i146 := by kernel_rfl
  m1 := by kernel_rfl
  s1_3 := fun w h => Go.Proofs.cell_of_shapedOpen_int (zero := #[.int .i64 0]) (t := 3) h (of_decide_eq_true (by kernel_rfl)) (by kernel_rfl) rfl (by kernel_rfl) (by kernel_rfl) Tryz.underlying3 }
open Go.RowKit Go.Lib in
theorem Tryz.strings_Index_shaped (s sub : ByteArray) (w : World) (h : w.ShapedOpen Tryz.prog) (hs : s.size < 4294967281) :
    Calls Tryz.prog 86 #[.string s, .string sub] w fun e w' => e = .returned (.int .i64 (Lib.index s.data.toList sub.data.toList)) ∧ w' = w := Any.strings_Index_shaped Tryz.laysM143 s sub w h hs
def Tryz.laysM144_ren : Go.Shelf.Ren := ⟨fun | 144 => 59 | 143 => 86 | 219 => 101 | 217 => 115 | 225 => 116 | 224 => 117 | 267 => 118 | 266 => 128 | 314 => 129 | n => n, fun | 9 => 9 | 4 => 4 | 3 => 3 | 5 => 5 | 46 => 139 | 146 => 147 | 51 => 146 | n => n, fun | 1 => 0 | n => n⟩
theorem Tryz.laysM144 : Go.Proofs.LaysM.n144 Tryz.prog Tryz.laysM144_ren := {
  mixed := by kernel_rfl
  f143 := Tryz.func86.trans (congrArg some (by kernel_rfl))
  f144 := Tryz.func59.trans (congrArg some (by kernel_rfl))
  f217 := Tryz.func115.trans (congrArg some (by kernel_rfl))
  f219 := Tryz.func101.trans (congrArg some (by kernel_rfl))
  f224 := Tryz.func117.trans (congrArg some (by kernel_rfl))
  f225 := Tryz.func116.trans (congrArg some (by kernel_rfl))
  f266 := Tryz.func128.trans (congrArg some (by kernel_rfl))
  f267 := Tryz.func118.trans (congrArg some (by kernel_rfl))
  f314 := Tryz.func129.trans (congrArg some (by kernel_rfl))
  t3 := Tryz.underlying3
  a3 := Tryz.isAgg3
  z3 := Tryz.sizeOf3
  v3 := Tryz.zeroValue3
  t4 := Tryz.underlying4
  a4 := Tryz.isAgg4
  z4 := Tryz.sizeOf4
  v4 := Tryz.zeroValue4
  t5 := Tryz.underlying5
  a5 := Tryz.isAgg5
  z5 := Tryz.sizeOf5
  v5 := Tryz.zeroValue5
  t9 := Tryz.underlying9
  a9 := Tryz.isAgg9
  z9 := Tryz.sizeOf9
  v9 := Tryz.zeroValue9
  t46 := Tryz.underlying139
  a46 := Tryz.isAgg139
  z46 := Tryz.sizeOf139
  v46 := Tryz.zeroValue139
  t51 := Tryz.underlying146
  a51 := Tryz.isAgg146
  z51 := Tryz.sizeOf146
  v51 := Tryz.zeroValue146
  t146 := Tryz.underlying147
  a146 := Tryz.isAgg147
  z146 := Tryz.sizeOf147
  v146 := Tryz.zeroValue147
  g1 := by kernel_rfl
  i3 := by kernel_rfl
  i4 := by kernel_rfl
  i5 := by kernel_rfl
  i9 := by kernel_rfl
  i46 := by kernel_rfl
  i51 := by kernel_rfl
  i146 := by kernel_rfl
  m1 := by kernel_rfl
  s1_3 := fun w h => Go.Proofs.cell_of_shapedOpen_int (zero := #[.int .i64 0]) (t := 3) h (of_decide_eq_true (by kernel_rfl)) (by kernel_rfl) rfl (by kernel_rfl) (by kernel_rfl) Tryz.underlying3 }
open Go.RowKit Go.Lib in
theorem Tryz.strings_Contains_shaped (s sub : ByteArray) (w : World) (h : w.ShapedOpen Tryz.prog) (hs : s.size < 4294967281) :
    Calls Tryz.prog 59 #[.string s, .string sub] w fun e w' => e = .returned (.bool (Lib.contains s.data.toList sub.data.toList)) ∧ w' = w := Any.strings_Contains_shaped Tryz.laysM144 s sub w h hs
def Tryz.laysM220_ren : Go.Shelf.Ren := ⟨fun | 220 => 100 | 219 => 101 | 217 => 115 | 225 => 116 | 224 => 117 | 267 => 118 | 266 => 128 | 314 => 129 | n => n, fun | 9 => 9 | 4 => 4 | 3 => 3 | 5 => 5 | 46 => 139 | 146 => 147 | 51 => 146 | n => n, fun | 1 => 0 | n => n⟩
theorem Tryz.laysM220 : Go.Proofs.LaysM.n220 Tryz.prog Tryz.laysM220_ren := {
  mixed := by kernel_rfl
  f217 := Tryz.func115.trans (congrArg some (by kernel_rfl))
  f219 := Tryz.func101.trans (congrArg some (by kernel_rfl))
  f220 := Tryz.func100.trans (congrArg some (by kernel_rfl))
  f224 := Tryz.func117.trans (congrArg some (by kernel_rfl))
  f225 := Tryz.func116.trans (congrArg some (by kernel_rfl))
  f266 := Tryz.func128.trans (congrArg some (by kernel_rfl))
  f267 := Tryz.func118.trans (congrArg some (by kernel_rfl))
  f314 := Tryz.func129.trans (congrArg some (by kernel_rfl))
  t3 := Tryz.underlying3
  a3 := Tryz.isAgg3
  z3 := Tryz.sizeOf3
  v3 := Tryz.zeroValue3
  t4 := Tryz.underlying4
  a4 := Tryz.isAgg4
  z4 := Tryz.sizeOf4
  v4 := Tryz.zeroValue4
  t5 := Tryz.underlying5
  a5 := Tryz.isAgg5
  z5 := Tryz.sizeOf5
  v5 := Tryz.zeroValue5
  t9 := Tryz.underlying9
  a9 := Tryz.isAgg9
  z9 := Tryz.sizeOf9
  v9 := Tryz.zeroValue9
  t46 := Tryz.underlying139
  a46 := Tryz.isAgg139
  z46 := Tryz.sizeOf139
  v46 := Tryz.zeroValue139
  t51 := Tryz.underlying146
  a51 := Tryz.isAgg146
  z51 := Tryz.sizeOf146
  v51 := Tryz.zeroValue146
  t146 := Tryz.underlying147
  a146 := Tryz.isAgg147
  z146 := Tryz.sizeOf147
  v146 := Tryz.zeroValue147
  g1 := by kernel_rfl
  i3 := by kernel_rfl
  i4 := by kernel_rfl
  i5 := by kernel_rfl
  i9 := by kernel_rfl
  i46 := by kernel_rfl
  i51 := by kernel_rfl
  i146 := by kernel_rfl
  m1 := by kernel_rfl
  s1_3 := fun w h => Go.Proofs.cell_of_shapedOpen_int (zero := #[.int .i64 0]) (t := 3) h (of_decide_eq_true (by kernel_rfl)) (by kernel_rfl) rfl (by kernel_rfl) (by kernel_rfl) Tryz.underlying3 }
open Go.RowKit Go.Lib in
theorem Tryz.stringslite_Cut_shaped (s sep : ByteArray) (w : World) (h : w.ShapedOpen Tryz.prog) (hs : s.size < 4294967281) :
    Calls Tryz.prog 100 #[.string s, .string sep] w fun e w' => e = .returned (.tuple #[.string ⟨(Lib.cut s.data.toList sep.data.toList).1.toArray⟩, .string ⟨(Lib.cut s.data.toList sep.data.toList).2.1.toArray⟩, .bool (Lib.cut s.data.toList sep.data.toList).2.2]) ∧ ∃ n, w' = w.drewN n := Any.stringslite_Cut_shaped Tryz.laysM220 s sep w h hs
def Tryz.laysM145_ren : Go.Shelf.Ren := ⟨fun | 145 => 83 | 220 => 100 | 219 => 101 | 217 => 115 | 225 => 116 | 224 => 117 | 267 => 118 | 266 => 128 | 314 => 129 | n => n, fun | 9 => 9 | 4 => 4 | 59 => 100 | 3 => 3 | 5 => 5 | 46 => 139 | 146 => 147 | 51 => 146 | n => n, fun | 1 => 0 | n => n⟩
theorem Tryz.laysM145 : Go.Proofs.LaysM.n145 Tryz.prog Tryz.laysM145_ren := {
  mixed := by kernel_rfl
  f145 := Tryz.func83.trans (congrArg some (by kernel_rfl))
  f217 := Tryz.func115.trans (congrArg some (by kernel_rfl))
  f219 := Tryz.func101.trans (congrArg some (by kernel_rfl))
  f220 := Tryz.func100.trans (congrArg some (by kernel_rfl))
  f224 := Tryz.func117.trans (congrArg some (by kernel_rfl))
  f225 := Tryz.func116.trans (congrArg some (by kernel_rfl))
  f266 := Tryz.func128.trans (congrArg some (by kernel_rfl))
  f267 := Tryz.func118.trans (congrArg some (by kernel_rfl))
  f314 := Tryz.func129.trans (congrArg some (by kernel_rfl))
  t3 := Tryz.underlying3
  a3 := Tryz.isAgg3
  z3 := Tryz.sizeOf3
  v3 := Tryz.zeroValue3
  t4 := Tryz.underlying4
  a4 := Tryz.isAgg4
  z4 := Tryz.sizeOf4
  v4 := Tryz.zeroValue4
  t5 := Tryz.underlying5
  a5 := Tryz.isAgg5
  z5 := Tryz.sizeOf5
  v5 := Tryz.zeroValue5
  t9 := Tryz.underlying9
  a9 := Tryz.isAgg9
  z9 := Tryz.sizeOf9
  v9 := Tryz.zeroValue9
  t46 := Tryz.underlying139
  a46 := Tryz.isAgg139
  z46 := Tryz.sizeOf139
  v46 := Tryz.zeroValue139
  t51 := Tryz.underlying146
  a51 := Tryz.isAgg146
  z51 := Tryz.sizeOf146
  v51 := Tryz.zeroValue146
  t59 := Tryz.underlying100
  a59 := Tryz.isAgg100
  z59 := Tryz.sizeOf100
  v59 := Tryz.zeroValue100
  t146 := Tryz.underlying147
  a146 := Tryz.isAgg147
  z146 := Tryz.sizeOf147
  v146 := Tryz.zeroValue147
  g1 := by kernel_rfl
  i3 := by kernel_rfl
  i4 := by kernel_rfl
  i5 := by kernel_rfl
  i9 := by kernel_rfl
  i46 := by kernel_rfl
  i51 := by kernel_rfl
  i59 := by kernel_rfl
  i146 := by kernel_rfl
  m1 := by kernel_rfl
  s1_3 := fun w h => Go.Proofs.cell_of_shapedOpen_int (zero := #[.int .i64 0]) (t := 3) h (of_decide_eq_true (by kernel_rfl)) (by kernel_rfl) rfl (by kernel_rfl) (by kernel_rfl) Tryz.underlying3 }
open Go.RowKit Go.Lib in
theorem Tryz.strings_Cut_shaped (s sep : ByteArray) (w : World) (h : w.ShapedOpen Tryz.prog) (hs : s.size < 4294967281) :
    Calls Tryz.prog 83 #[.string s, .string sep] w fun e w' => e = .returned (.tuple #[.string ⟨(Lib.cut s.data.toList sep.data.toList).1.toArray⟩, .string ⟨(Lib.cut s.data.toList sep.data.toList).2.1.toArray⟩, .bool (Lib.cut s.data.toList sep.data.toList).2.2]) ∧ ∃ n, w' = w.drewN n := Any.strings_Cut_shaped Tryz.laysM145 s sep w h hs
def Tryz.lays206_ren : Go.Shelf.Ren := ⟨fun | 206 => 99 | n => n, fun | 9 => 9 | 4 => 4 | 3 => 3 | n => n, fun | n => n⟩
theorem Tryz.lays206 : Go.Proofs.Lays.n206 Tryz.prog Tryz.lays206_ren := {
  mixed := by kernel_rfl
  f206 := Tryz.func99.trans (congrArg some (by kernel_rfl))
  t3 := Tryz.underlying3
  a3 := Tryz.isAgg3
  z3 := Tryz.sizeOf3
  v3 := Tryz.zeroValue3
  t4 := Tryz.underlying4
  a4 := Tryz.isAgg4
  z4 := Tryz.sizeOf4
  v4 := Tryz.zeroValue4
  t9 := Tryz.underlying9
  a9 := Tryz.isAgg9
  z9 := Tryz.sizeOf9
  v9 := Tryz.zeroValue9 }
open Go.RowKit Go.Lib in
/-- internal/stringslite.HasPrefix (what strings.HasPrefix calls). (LAID: no walk: one application.) -/
theorem Tryz.stringslite_HasPrefix (s p : ByteArray) (w : World) :
    Calls Tryz.prog 99 #[.string s, .string p] w fun e w' => e = .returned (.bool (Lib.hasPrefix s.data.toList p.data.toList)) ∧ w' = w := Any.stringslite_HasPrefix Tryz.lays206 s p w
def Tryz.lays99_ren : Go.Shelf.Ren := ⟨fun | 99 => 81 | 206 => 99 | n => n, fun | 9 => 9 | 4 => 4 | 3 => 3 | n => n, fun | n => n⟩
theorem Tryz.lays99 : Go.Proofs.Lays.n99 Tryz.prog Tryz.lays99_ren := {
  mixed := by kernel_rfl
  f99 := Tryz.func81.trans (congrArg some (by kernel_rfl))
  f206 := Tryz.func99.trans (congrArg some (by kernel_rfl))
  t3 := Tryz.underlying3
  a3 := Tryz.isAgg3
  z3 := Tryz.sizeOf3
  v3 := Tryz.zeroValue3
  t4 := Tryz.underlying4
  a4 := Tryz.isAgg4
  z4 := Tryz.sizeOf4
  v4 := Tryz.zeroValue4
  t9 := Tryz.underlying9
  a9 := Tryz.isAgg9
  z9 := Tryz.sizeOf9
  v9 := Tryz.zeroValue9 }
open Go.RowKit Go.Lib in
/-- strings.HasPrefix: "HasPrefix reports whether the string s begins with prefix.": IT RETURNS 'Lib.hasPrefix s prefix'; the world is as it was. (LAID: no walk: one application.) -/
theorem Tryz.strings_HasPrefix (s p : ByteArray) (w : World) :
    Calls Tryz.prog 81 #[.string s, .string p] w fun e w' => e = .returned (.bool (Lib.hasPrefix s.data.toList p.data.toList)) ∧ w' = w := Any.strings_HasPrefix Tryz.lays99 s p w
def Tryz.lays207_ren : Go.Shelf.Ren := ⟨fun | 207 => 85 | n => n, fun | 9 => 9 | 4 => 4 | 3 => 3 | n => n, fun | n => n⟩
theorem Tryz.lays207 : Go.Proofs.Lays.n207 Tryz.prog Tryz.lays207_ren := {
  mixed := by kernel_rfl
  f207 := Tryz.func85.trans (congrArg some (by kernel_rfl))
  t3 := Tryz.underlying3
  a3 := Tryz.isAgg3
  z3 := Tryz.sizeOf3
  v3 := Tryz.zeroValue3
  t4 := Tryz.underlying4
  a4 := Tryz.isAgg4
  z4 := Tryz.sizeOf4
  v4 := Tryz.zeroValue4
  t9 := Tryz.underlying9
  a9 := Tryz.isAgg9
  z9 := Tryz.sizeOf9
  v9 := Tryz.zeroValue9 }
open Go.RowKit Go.Lib in
/-- internal/stringslite.HasSuffix (what strings.HasSuffix calls). (LAID: no walk: one application.) -/
theorem Tryz.stringslite_HasSuffix (s p : ByteArray) (w : World) (hs : s.size ≤ 9223372036854775807) :
    Calls Tryz.prog 85 #[.string s, .string p] w fun e w' => e = .returned (.bool (Lib.hasSuffix s.data.toList p.data.toList)) ∧ w' = w := Any.stringslite_HasSuffix Tryz.lays207 s p w hs
def Tryz.lays100_ren : Go.Shelf.Ren := ⟨fun | 100 => 58 | 207 => 85 | n => n, fun | 9 => 9 | 4 => 4 | 3 => 3 | n => n, fun | n => n⟩
theorem Tryz.lays100 : Go.Proofs.Lays.n100 Tryz.prog Tryz.lays100_ren := {
  mixed := by kernel_rfl
  f100 := Tryz.func58.trans (congrArg some (by kernel_rfl))
  f207 := Tryz.func85.trans (congrArg some (by kernel_rfl))
  t3 := Tryz.underlying3
  a3 := Tryz.isAgg3
  z3 := Tryz.sizeOf3
  v3 := Tryz.zeroValue3
  t4 := Tryz.underlying4
  a4 := Tryz.isAgg4
  z4 := Tryz.sizeOf4
  v4 := Tryz.zeroValue4
  t9 := Tryz.underlying9
  a9 := Tryz.isAgg9
  z9 := Tryz.sizeOf9
  v9 := Tryz.zeroValue9 }
open Go.RowKit Go.Lib in
/-- strings.HasSuffix: "HasSuffix reports whether the string s ends with suffix.": IT RETURNS 'Lib.hasSuffix s suffix'; the world is as it was. ('hs': no Go string is longer: a caller has it of every string that it was handed.) (LAID: no walk: one application.) -/
theorem Tryz.strings_HasSuffix (s p : ByteArray) (w : World) (hs : s.size ≤ 9223372036854775807) :
    Calls Tryz.prog 58 #[.string s, .string p] w fun e w' => e = .returned (.bool (Lib.hasSuffix s.data.toList p.data.toList)) ∧ w' = w := Any.strings_HasSuffix Tryz.lays100 s p w hs
def Tryz.lays152_ren : Go.Shelf.Ren := ⟨fun | 152 => 103 | 137 => 120 | 119 => 121 | 224 => 117 | 225 => 116 | 217 => 115 | 266 => 128 | n => n, fun | 9 => 9 | 21 => 21 | 3 => 3 | 4 => 4 | 5 => 5 | 0 => 0 | 46 => 139 | n => n, fun | n => n⟩
theorem Tryz.lays152 : Go.Proofs.Lays.n152 Tryz.prog Tryz.lays152_ren := {
  mixed := by kernel_rfl
  f119 := Tryz.func121.trans (congrArg some (by kernel_rfl))
  f137 := Tryz.func120.trans (congrArg some (by kernel_rfl))
  f152 := Tryz.func103.trans (congrArg some (by kernel_rfl))
  f217 := Tryz.func115.trans (congrArg some (by kernel_rfl))
  f224 := Tryz.func117.trans (congrArg some (by kernel_rfl))
  f225 := Tryz.func116.trans (congrArg some (by kernel_rfl))
  f266 := Tryz.func128.trans (congrArg some (by kernel_rfl))
  t0 := Tryz.underlying0
  a0 := Tryz.isAgg0
  z0 := Tryz.sizeOf0
  v0 := Tryz.zeroValue0
  t3 := Tryz.underlying3
  a3 := Tryz.isAgg3
  z3 := Tryz.sizeOf3
  v3 := Tryz.zeroValue3
  t4 := Tryz.underlying4
  a4 := Tryz.isAgg4
  z4 := Tryz.sizeOf4
  v4 := Tryz.zeroValue4
  t5 := Tryz.underlying5
  a5 := Tryz.isAgg5
  z5 := Tryz.sizeOf5
  v5 := Tryz.zeroValue5
  t9 := Tryz.underlying9
  a9 := Tryz.isAgg9
  z9 := Tryz.sizeOf9
  v9 := Tryz.zeroValue9
  t21 := Tryz.underlying21
  a21 := Tryz.isAgg21
  z21 := Tryz.sizeOf21
  v21 := Tryz.zeroValue21
  t46 := Tryz.underlying139
  a46 := Tryz.isAgg139
  z46 := Tryz.sizeOf139
  v46 := Tryz.zeroValue139 }
open Go.RowKit Go.Lib in
theorem Tryz.strings_IndexRune_ascii (s : ByteArray) (r : Int) (w : World) (h0 : 0 ≤ r) (h1 : r < 128) :
    Calls Tryz.prog 103 #[.string s, .int .i32 r] w fun e w' => e = .returned (.int .i64 (Lib.indexByte s.data.toList r.toNat.toUInt8)) ∧ w' = w := Any.strings_IndexRune_ascii Tryz.lays152 s r w h0 h1
def Tryz.lays226_ren : Go.Shelf.Ren := ⟨fun | 226 => 104 | n => n, fun | 3 => 3 | 4 => 4 | n => n, fun | n => n⟩
theorem Tryz.lays226 : Go.Proofs.Lays.n226 Tryz.prog Tryz.lays226_ren := {
  mixed := by kernel_rfl
  f226 := Tryz.func104.trans (congrArg some (by kernel_rfl))
  t3 := Tryz.underlying3
  a3 := Tryz.isAgg3
  z3 := Tryz.sizeOf3
  v3 := Tryz.zeroValue3
  t4 := Tryz.underlying4
  a4 := Tryz.isAgg4
  z4 := Tryz.sizeOf4
  v4 := Tryz.zeroValue4 }
open Go.RowKit Go.Lib in
theorem Tryz.strings_shouldUseASCIISet (n : Int) (w : World) :
    Calls Tryz.prog 104 #[.int .i64 n] w fun e w' => e = .returned (.bool (decide (8 < n))) ∧ w' = w := Any.strings_shouldUseASCIISet Tryz.lays226 n w
def Tryz.lays153_ren : Go.Shelf.Ren := ⟨fun | 153 => 88 | 152 => 103 | 226 => 104 | 227 => 105 | 228 => 106 | 137 => 120 | 119 => 121 | 224 => 117 | 225 => 116 | 217 => 115 | 266 => 128 | n => n, fun | 9 => 9 | 3 => 3 | 4 => 4 | 5 => 5 | 21 => 21 | 117 => 125 | 116 => 124 | 0 => 0 | 46 => 139 | 124 => 142 | n => n, fun | n => n⟩
theorem Tryz.lays153 : Go.Proofs.Lays.n153 Tryz.prog Tryz.lays153_ren := {
  mixed := by kernel_rfl
  f119 := Tryz.func121.trans (congrArg some (by kernel_rfl))
  f137 := Tryz.func120.trans (congrArg some (by kernel_rfl))
  f152 := Tryz.func103.trans (congrArg some (by kernel_rfl))
  f153 := Tryz.func88.trans (congrArg some (by kernel_rfl))
  f217 := Tryz.func115.trans (congrArg some (by kernel_rfl))
  f224 := Tryz.func117.trans (congrArg some (by kernel_rfl))
  f225 := Tryz.func116.trans (congrArg some (by kernel_rfl))
  f226 := Tryz.func104.trans (congrArg some (by kernel_rfl))
  f227 := Tryz.func105.trans (congrArg some (by kernel_rfl))
  f228 := Tryz.func106.trans (congrArg some (by kernel_rfl))
  f266 := Tryz.func128.trans (congrArg some (by kernel_rfl))
  t0 := Tryz.underlying0
  a0 := Tryz.isAgg0
  z0 := Tryz.sizeOf0
  v0 := Tryz.zeroValue0
  t3 := Tryz.underlying3
  a3 := Tryz.isAgg3
  z3 := Tryz.sizeOf3
  v3 := Tryz.zeroValue3
  t4 := Tryz.underlying4
  a4 := Tryz.isAgg4
  z4 := Tryz.sizeOf4
  v4 := Tryz.zeroValue4
  t5 := Tryz.underlying5
  a5 := Tryz.isAgg5
  z5 := Tryz.sizeOf5
  v5 := Tryz.zeroValue5
  t9 := Tryz.underlying9
  a9 := Tryz.isAgg9
  z9 := Tryz.sizeOf9
  v9 := Tryz.zeroValue9
  t21 := Tryz.underlying21
  a21 := Tryz.isAgg21
  z21 := Tryz.sizeOf21
  v21 := Tryz.zeroValue21
  t46 := Tryz.underlying139
  a46 := Tryz.isAgg139
  z46 := Tryz.sizeOf139
  v46 := Tryz.zeroValue139
  t116 := Tryz.underlying124
  a116 := Tryz.isAgg124
  z116 := Tryz.sizeOf124
  t117 := Tryz.underlying125
  a117 := Tryz.isAgg125
  z117 := Tryz.sizeOf125
  v117 := Tryz.zeroValue125
  t124 := Tryz.underlying142
  a124 := Tryz.isAgg142
  z124 := Tryz.sizeOf142
  v124 := Tryz.zeroValue142 }
open Go.RowKit Go.Lib in
/-- chars is empty. (LAID: no walk: one application.) -/
theorem Tryz.strings_IndexAny_none (s chars : ByteArray) (w : World) (h0 : chars.size = 0) :
    Calls Tryz.prog 88 #[.string s, .string chars] w fun e w' => e = .returned (.int .i64 (Lib.indexAny s.data.toList chars.data.toList)) ∧ w' = w := Any.strings_IndexAny_none Tryz.lays153 s chars w h0
open Go.RowKit Go.Lib in
/-- chars is one ASCII byte. (LAID: no walk: one application.) -/
theorem Tryz.strings_IndexAny_one (s chars : ByteArray) (w : World) (h1 : chars.size = 1) (hascii : ∀ (j : Nat) b, chars.data.toList[j]? = some b → b.toNat < 128) :
    Calls Tryz.prog 88 #[.string s, .string chars] w fun e w' => e = .returned (.int .i64 (Lib.indexAny s.data.toList chars.data.toList)) ∧ w' = w := Any.strings_IndexAny_one Tryz.lays153 s chars w h1 hascii
open Go.RowKit Go.Lib in
/-- s of at most 8 bytes; chars of two or more: 'for i, c := range s { if IndexRune(chars, c) >= 0 { return i } }'. One block more: the model's iterator over s. (LAID: no walk: one application.) -/
theorem Tryz.strings_IndexAny_short (s chars : ByteArray) (w : World) (h2 : 2 ≤ chars.size) (h8 : s.size ≤ 8) (hascii : ∀ (j : Nat) b, s.data.toList[j]? = some b → b.toNat < 128) :
    Calls Tryz.prog 88 #[.string s, .string chars] w fun e w' => e = .returned (.int .i64 (Lib.indexAny s.data.toList chars.data.toList)) ∧ ∃ pos, w' = w.iter s pos := Any.strings_IndexAny_short Tryz.lays153 s chars w h2 h8 hascii
def Tryz.lays227_ren : Go.Shelf.Ren := ⟨fun | 227 => 105 | n => n, fun | 9 => 9 | 116 => 124 | 4 => 4 | 0 => 0 | 3 => 3 | 5 => 5 | n => n, fun | n => n⟩
theorem Tryz.lays227 : Go.Proofs.Lays.n227 Tryz.prog Tryz.lays227_ren := {
  mixed := by kernel_rfl
  f227 := Tryz.func105.trans (congrArg some (by kernel_rfl))
  t0 := Tryz.underlying0
  a0 := Tryz.isAgg0
  z0 := Tryz.sizeOf0
  v0 := Tryz.zeroValue0
  t3 := Tryz.underlying3
  a3 := Tryz.isAgg3
  z3 := Tryz.sizeOf3
  v3 := Tryz.zeroValue3
  t4 := Tryz.underlying4
  a4 := Tryz.isAgg4
  z4 := Tryz.sizeOf4
  v4 := Tryz.zeroValue4
  t5 := Tryz.underlying5
  a5 := Tryz.isAgg5
  z5 := Tryz.sizeOf5
  v5 := Tryz.zeroValue5
  t9 := Tryz.underlying9
  a9 := Tryz.isAgg9
  z9 := Tryz.sizeOf9
  v9 := Tryz.zeroValue9
  t116 := Tryz.underlying124
  a116 := Tryz.isAgg124
  z116 := Tryz.sizeOf124 }
open Go.RowKit Go.Lib in
theorem Tryz.strings_makeASCIISet (hv116 : ∀ w, (zeroValue 124).run Tryz.prog w = .ok (.agg (Array.replicate 256 (.bool false))) w) (chars : ByteArray) (w : World) (hs : chars.size < 4294967281) (hascii : ∀ (j : Nat) b, chars.data.toList[j]? = some b → b.toNat < 128) :
    Calls Tryz.prog 105 #[.string chars] w fun e w' => e = .returned (.tuple #[.agg (Lib.setCells chars.data.toList), .bool true]) ∧ w' = w.alloc (.cells (Lib.setCells chars.data.toList) 124) := Any.strings_makeASCIISet Tryz.lays227 hv116 (by kernel_rfl) chars w hs hascii
def Tryz.lays228_ren : Go.Shelf.Ren := ⟨fun | 228 => 106 | n => n, fun | 124 => 142 | 5 => 5 | 4 => 4 | 0 => 0 | 116 => 124 | n => n, fun | n => n⟩
theorem Tryz.lays228 : Go.Proofs.Lays.n228 Tryz.prog Tryz.lays228_ren := {
  mixed := by kernel_rfl
  f228 := Tryz.func106.trans (congrArg some (by kernel_rfl))
  t0 := Tryz.underlying0
  a0 := Tryz.isAgg0
  z0 := Tryz.sizeOf0
  v0 := Tryz.zeroValue0
  t4 := Tryz.underlying4
  a4 := Tryz.isAgg4
  z4 := Tryz.sizeOf4
  v4 := Tryz.zeroValue4
  t5 := Tryz.underlying5
  a5 := Tryz.isAgg5
  z5 := Tryz.sizeOf5
  v5 := Tryz.zeroValue5
  t116 := Tryz.underlying124
  a116 := Tryz.isAgg124
  z116 := Tryz.sizeOf124
  t124 := Tryz.underlying142
  a124 := Tryz.isAgg142
  z124 := Tryz.sizeOf142
  v124 := Tryz.zeroValue142 }
open Go.RowKit Go.Lib in
/-- '(as *asciiSet) contains(c)': 'as[c]': the set lies at block b, whole. (LAID: no walk: one application.) -/
theorem Tryz.asciiSet_contains (b : Nat) (x : UInt8) (v : Bool) (w : World) (hc : w.cell? ⟨b, x.toNat, none⟩ = some (.bool v)) :
    Calls Tryz.prog 106 #[.pointer (some ⟨b, 0, none⟩), .int .u8 x.toNat] w fun e w' => e = .returned (.bool v) ∧ w' = w := Any.asciiSet_contains Tryz.lays228 b x v w hc
open Go.RowKit Go.Lib in
theorem Tryz.strings_IndexAny_long (hv116 : ∀ w, (zeroValue 124).run Tryz.prog w = .ok (.agg (Array.replicate 256 (.bool false))) w) (s chars : ByteArray) (w : World) (h2 : 2 ≤ chars.size) (h8 : 8 < s.size) (hs : s.size < 4294967281) (hcs : chars.size < 4294967281) (hascii : ∀ (j : Nat) b, chars.data.toList[j]? = some b → b.toNat < 128) :
    Calls Tryz.prog 88 #[.string s, .string chars] w fun e w' => e = .returned (.int .i64 (Lib.indexAny s.data.toList chars.data.toList)) ∧ w' = ((w.alloc (.cells (Lib.setCells chars.data.toList) 124)).alloc (.cells (Lib.setCells chars.data.toList) 124)) := Any.strings_IndexAny_long Tryz.lays153 hv116 (by kernel_rfl) s chars w h2 h8 hs hcs hascii
open Go.RowKit Go.Lib in
/-- strings.IndexAny ON ASCII BYTES: the four roads under one statement. (LAID: no walk: one application.) -/
theorem Tryz.strings_IndexAny (hv116 : ∀ w, (zeroValue 124).run Tryz.prog w = .ok (.agg (Array.replicate 256 (.bool false))) w) (s chars : ByteArray) (w : World) (hs : s.size < 4294967281) (hcs : chars.size < 4294967281) (has : ∀ (j : Nat) b, s.data.toList[j]? = some b → b.toNat < 128) (hac : ∀ (j : Nat) b, chars.data.toList[j]? = some b → b.toNat < 128) :
    Calls Tryz.prog 88 #[.string s, .string chars] w fun e w' => e = .returned (.int .i64 (Lib.indexAny s.data.toList chars.data.toList)) ∧ Below w.heap.size w w' := Any.strings_IndexAny Tryz.lays153 hv116 (by kernel_rfl) s chars w hs hcs has hac
def Tryz.lays150_ren : Go.Shelf.Ren := ⟨fun | 150 => 63 | 153 => 88 | 152 => 103 | 226 => 104 | 227 => 105 | 228 => 106 | 137 => 120 | 119 => 121 | 224 => 117 | 225 => 116 | 217 => 115 | 266 => 128 | n => n, fun | 9 => 9 | 4 => 4 | 3 => 3 | 5 => 5 | 21 => 21 | 117 => 125 | 116 => 124 | 0 => 0 | 46 => 139 | 124 => 142 | n => n, fun | n => n⟩
theorem Tryz.lays150 : Go.Proofs.Lays.n150 Tryz.prog Tryz.lays150_ren := {
  mixed := by kernel_rfl
  f119 := Tryz.func121.trans (congrArg some (by kernel_rfl))
  f137 := Tryz.func120.trans (congrArg some (by kernel_rfl))
  f150 := Tryz.func63.trans (congrArg some (by kernel_rfl))
  f152 := Tryz.func103.trans (congrArg some (by kernel_rfl))
  f153 := Tryz.func88.trans (congrArg some (by kernel_rfl))
  f217 := Tryz.func115.trans (congrArg some (by kernel_rfl))
  f224 := Tryz.func117.trans (congrArg some (by kernel_rfl))
  f225 := Tryz.func116.trans (congrArg some (by kernel_rfl))
  f226 := Tryz.func104.trans (congrArg some (by kernel_rfl))
  f227 := Tryz.func105.trans (congrArg some (by kernel_rfl))
  f228 := Tryz.func106.trans (congrArg some (by kernel_rfl))
  f266 := Tryz.func128.trans (congrArg some (by kernel_rfl))
  t0 := Tryz.underlying0
  a0 := Tryz.isAgg0
  z0 := Tryz.sizeOf0
  v0 := Tryz.zeroValue0
  t3 := Tryz.underlying3
  a3 := Tryz.isAgg3
  z3 := Tryz.sizeOf3
  v3 := Tryz.zeroValue3
  t4 := Tryz.underlying4
  a4 := Tryz.isAgg4
  z4 := Tryz.sizeOf4
  v4 := Tryz.zeroValue4
  t5 := Tryz.underlying5
  a5 := Tryz.isAgg5
  z5 := Tryz.sizeOf5
  v5 := Tryz.zeroValue5
  t9 := Tryz.underlying9
  a9 := Tryz.isAgg9
  z9 := Tryz.sizeOf9
  v9 := Tryz.zeroValue9
  t21 := Tryz.underlying21
  a21 := Tryz.isAgg21
  z21 := Tryz.sizeOf21
  v21 := Tryz.zeroValue21
  t46 := Tryz.underlying139
  a46 := Tryz.isAgg139
  z46 := Tryz.sizeOf139
  v46 := Tryz.zeroValue139
  t116 := Tryz.underlying124
  a116 := Tryz.isAgg124
  z116 := Tryz.sizeOf124
  t117 := Tryz.underlying125
  a117 := Tryz.isAgg125
  z117 := Tryz.sizeOf125
  v117 := Tryz.zeroValue125
  t124 := Tryz.underlying142
  a124 := Tryz.isAgg142
  z124 := Tryz.sizeOf142
  v124 := Tryz.zeroValue142 }
open Go.RowKit Go.Lib in
/-- strings.ContainsAny ON ASCII BYTES. (LAID: no walk: one application.) -/
theorem Tryz.strings_ContainsAny (hv116 : ∀ w, (zeroValue 124).run Tryz.prog w = .ok (.agg (Array.replicate 256 (.bool false))) w) (s chars : ByteArray) (w : World) (hs : s.size < 4294967281) (hcs : chars.size < 4294967281) (has : ∀ (j : Nat) b, s.data.toList[j]? = some b → b.toNat < 128) (hac : ∀ (j : Nat) b, chars.data.toList[j]? = some b → b.toNat < 128) :
    Calls Tryz.prog 63 #[.string s, .string chars] w fun e w' => e = .returned (.bool (Lib.containsAny s.data.toList chars.data.toList)) ∧ Below w.heap.size w w' := Any.strings_ContainsAny Tryz.lays150 hv116 (by kernel_rfl) s chars w hs hcs has hac
open Go.RowKit Go.Lib in
theorem Tryz.strings_IndexAny_laid (s chars : ByteArray) (w : World) (hs : s.size < 4294967281) (hcs : chars.size < 4294967281) (has : ∀ (j : Nat) b, s.data.toList[j]? = some b → b.toNat < 128) (hac : ∀ (j : Nat) b, chars.data.toList[j]? = some b → b.toNat < 128) :
    Calls Tryz.prog 88 #[.string s, .string chars] w fun e w' => e = .returned (.int .i64 (Lib.indexAny s.data.toList chars.data.toList)) ∧ Below w.heap.size w w' := Any.strings_IndexAny_laid Tryz.lays153 (by kernel_rfl) s chars w hs hcs has hac
open Go.RowKit Go.Lib in
theorem Tryz.strings_ContainsAny_laid (s chars : ByteArray) (w : World) (hs : s.size < 4294967281) (hcs : chars.size < 4294967281) (has : ∀ (j : Nat) b, s.data.toList[j]? = some b → b.toNat < 128) (hac : ∀ (j : Nat) b, chars.data.toList[j]? = some b → b.toNat < 128) :
    Calls Tryz.prog 63 #[.string s, .string chars] w fun e w' => e = .returned (.bool (Lib.containsAny s.data.toList chars.data.toList)) ∧ Below w.heap.size w w' := Any.strings_ContainsAny_laid Tryz.lays150 (by kernel_rfl) s chars w hs hcs has hac
def Tryz.laysNm237_ren : Go.Shelf.Ren := ⟨fun | 37 => 123 | n => n, fun | 3 => 3 | 4 => 4 | n => n, fun | n => n⟩
theorem Tryz.laysNm237 : Go.Proofs.Lays2.n37 Tryz.prog Tryz.laysNm237_ren := {
  mixed := by kernel_rfl
  f37 := Tryz.func123.trans (congrArg some (by kernel_rfl))
  t3 := Tryz.underlying3
  a3 := Tryz.isAgg3
  z3 := Tryz.sizeOf3
  v3 := Tryz.zeroValue3
  t4 := Tryz.underlying4
  a4 := Tryz.isAgg4
  z4 := Tryz.sizeOf4
  v4 := Tryz.zeroValue4 }
open Go.RowKit Go.Lib in
/-- cmp.isNaN[int]: 'x != x': false. (LAID: no walk: one application.) -/
theorem Tryz.cmp_isNaN_int2 (x : Int) (w : World) :
    Calls Tryz.prog 123 #[.int .i64 x] w fun e w' => e = .returned (.bool false) ∧ w' = w := Any.cmp_isNaN_int2 Tryz.laysNm237 x w
end Go.Proofs

/- Slices of entries: one that came in, one of the call's own. -/
namespace Go.Proofs.YtobepdmpacdakaaGreat
open Go.RowKit

abbrev entC (e : Ent) : Array Value := #[.string ⟨e.1.toArray⟩, .int .i64 e.2]
def entsV : List Ent → List Value
  | [] => []
  | e :: l => .string ⟨e.1.toArray⟩ :: .int .i64 e.2 :: entsV l
theorem entsV_len (l : List Ent) : (entsV l).length = l.length * 2 := by
  induction l with
  | nil => rfl
  | cons e l ih => simp [entsV, ih]; omega
theorem entsV_append (a b : List Ent) : entsV (a ++ b) = entsV a ++ entsV b := by
  induction a with
  | nil => rfl
  | cons e l ih => simp [entsV, ih]
theorem entsV_one (l : List Ent) : ∀ u ∈ entsV l, u.oneCell' = true := by
  induction l with
  | nil => simp [entsV]
  | cons e l ih =>
    intro u hu
    simp only [entsV, List.mem_cons] at hu
    rcases hu with rfl | rfl | hu
    · rfl
    · rfl
    · exact ih u hu
theorem entsV_at (l : List Ent) : ∀ (i : Nat) (h : i < l.length), (entsV l)[i * 2]? = some (.string ⟨l[i].1.toArray⟩) ∧ (entsV l)[i * 2 + 1]? = some (.int .i64 l[i].2) := by
  induction l with
  | nil => intro i h; simp at h
  | cons e l ih =>
    intro i h
    cases i with
    | zero => exact ⟨rfl, rfl⟩
    | succ i =>
      have := ih i (by simpa using h)
      rw [show (i + 1) * 2 = i * 2 + 2 from by omega, show i * 2 + 2 + 1 = i * 2 + 1 + 2 from by omega]
      simpa [entsV] using this
theorem entsV_take (l : List Ent) : ∀ k, (entsV l).take (k * 2) = entsV (l.take k) := by
  induction l with
  | nil => simp [entsV]
  | cons e l ih =>
    intro k
    cases k with
    | zero => simp [entsV]
    | succ k => rw [show (k + 1) * 2 = k * 2 + 2 from by omega]; simp [entsV, ih]
theorem entsV_drop (l : List Ent) : ∀ k, (entsV l).drop (k * 2) = entsV (l.drop k) := by
  induction l with
  | nil => simp [entsV]
  | cons e l ih =>
    intro k
    cases k with
    | zero => simp [entsV]
    | succ k => rw [show (k + 1) * 2 = k * 2 + 2 from by omega]; simp [entsV, ih]

/-- A slice that reads as these entries. -/
def Ents (w : World) (v : Value) (l : List Ent) : Prop :=
  ∃ a cap, v = .slice a l.length cap ∧ l.length ≤ cap ∧ cap ≤ maxLen ∧ (0 < l.length → ∃ b off, a = some ⟨b, off, none⟩ ∧ b < w.heap.size ∧ ∀ i (h : i < l.length), w.cell? ⟨b, off + i * 2, none⟩ = some (.string ⟨l[i].1.toArray⟩) ∧ w.cell? ⟨b, off + i * 2 + 1, none⟩ = some (.int .i64 l[i].2))

theorem Ents.below {w w' : World} {v : Value} {l : List Ent} (h : Ents w v l) (hb : Below w.heap.size w w') : Ents w' v l := by
  obtain ⟨a, cap, rfl, hc, hm, h1⟩ := h
  refine ⟨a, cap, rfl, hc, hm, fun hl => ?_⟩
  obtain ⟨b, off, rfl, hlt, hx⟩ := h1 hl
  exact ⟨b, off, rfl, Nat.lt_of_lt_of_le hlt hb.size, fun i hi => ⟨(hb.cell (p := ⟨b, off + i * 2, none⟩) hlt).trans (hx i hi).1, (hb.cell (p := ⟨b, off + i * 2 + 1, none⟩) hlt).trans (hx i hi).2⟩⟩

theorem Ents.nil_ (w : World) : Ents w (.slice none 0 0) [] := ⟨none, 0, rfl, Nat.zero_le _, Nat.zero_le _, fun h => absurd h (by simp)⟩

/-- What is owned reads so. -/
theorem own_ents {w : World} {base : Nat} {e : TypeId} {v : Value} {n : Nat} {l : List Ent} (h : w.ownsRow base e 2 v n (entsV l)) : Ents w v l := by
  have hlen := h.1
  rw [entsV_len] at hlen
  obtain rfl : n = l.length := by omega
  rcases h.2 with ⟨rfl, h0⟩ | ⟨g, cap, cur, rfl, hg, hh, hnc, hcm, hsz, htk⟩
  · have : l = [] := List.eq_nil_of_length_eq_zero h0
    subst this
    exact Ents.nil_ w
  · refine ⟨_, cap, rfl, hnc, hcm, fun _ => ⟨g, 0, rfl, (h.lt g rfl).2, fun i hi => ?_⟩⟩
    have c0 := h.cellAt (i * 2) (by omega)
    have c1 := h.cellAt (i * 2 + 1) (by omega)
    rw [(entsV_at l i hi).1] at c0
    rw [(entsV_at l i hi).2] at c1
    rw [Nat.zero_add]
    exact ⟨c0, c1⟩

/-- A piece of a slice of entries. -/
theorem Ents.cut {w : World} {a : Option Addr} {n cap : Nat} {l : List Ent} (h : Ents w (.slice a n cap) l) (k m : Nat) (hk : k ≤ l.length) (hm : k ≤ m) (hml : m ≤ l.length) (a' : Option Addr) (cap' : Nat) (hc : m - k ≤ cap') (hcm : cap' ≤ maxLen)
    (ha : k < m → ∀ b off, a = some ⟨b, off, none⟩ → a' = some ⟨b, off + k * 2, none⟩) : Ents w (.slice a' (m - k) cap') ((l.take m).drop k) := by
  obtain ⟨x, c, hx, hlc, hcx, h1⟩ := h
  simp only [Value.slice.injEq] at hx
  obtain ⟨rfl, rfl, rfl⟩ := hx
  have hlen : ((l.take m).drop k).length = m - k := by rw [List.length_drop, List.length_take, Nat.min_eq_left hml]
  refine ⟨a', cap', by rw [hlen], by rw [hlen]; exact hc, hcm, fun hl => ?_⟩
  rw [hlen] at hl
  obtain ⟨b, off, rfl, hlt, hcell⟩ := h1 (by omega)
  refine ⟨b, off + k * 2, ha (by omega) b off rfl, hlt, fun i hi => ?_⟩
  rw [hlen] at hi
  have := hcell (k + i) (by omega)
  rw [show off + (k + i) * 2 = off + k * 2 + i * 2 from by omega] at this
  simpa using this

theorem Ents.head {w : World} {a : Option Addr} {n cap : Nat} {l : List Ent} (h : Ents w (.slice a n cap) l) (k cap' : Nat) (hk : k ≤ l.length) (hc : k ≤ cap') (hcm : cap' ≤ maxLen) : Ents w (.slice a k cap') (l.take k) := by
  have := h.cut 0 k (Nat.zero_le _) (Nat.zero_le _) hk a cap' (by omega) hcm (fun _ b off e => by rw [e]; simp)
  simpa using this
theorem Ents.tail {w : World} {a : Option Addr} {n cap : Nat} {l : List Ent} (h : Ents w (.slice a n cap) l) (k : Nat) (a' : Option Addr) (m cap' : Nat) (hk : k ≤ l.length) (hm : m = l.length - k) (hc : l.length - k ≤ cap') (hcm : cap' ≤ maxLen)
    (ha : k < l.length → a' = a.map fun x => x.add (k * 2)) : Ents w (.slice a' m cap') (l.drop k) := by
  subst hm
  have := h.cut k l.length hk hk (Nat.le_refl _) a' cap' hc hcm (fun hkl b off e => by rw [ha hkl, e, Option.map_some, Addr.add_lit])
  simpa using this

/-- The cells of a slice of entries, as a source of a copy or an append. -/
theorem Ents.src {w : World} {a : Option Addr} {n cap : Nat} {l : List Ent} (h : Ents w (.slice a n cap) l) (hl : 0 < l.length) : ∃ ad : Addr, a = some ad ∧ ad.block < w.heap.size ∧ ∀ j v, (entsV l)[j]? = some v → w.cell? (ad.add j) = some v := by
  obtain ⟨x, c, hx, _, _, h1⟩ := h
  simp only [Value.slice.injEq] at hx
  obtain ⟨rfl, rfl, rfl⟩ := hx
  obtain ⟨b, off, rfl, hlt, hcell⟩ := h1 hl
  refine ⟨_, rfl, hlt, fun j v hv => ?_⟩
  have hj : j < l.length * 2 := by
    rcases Nat.lt_or_ge j (entsV l).length with h | h
    · rwa [entsV_len] at h
    · rw [List.getElem?_eq_none h] at hv; cases hv
  have hc := hcell (j / 2) (by omega)
  have he := entsV_at l (j / 2) (by omega)
  rw [Addr.add_lit]
  rcases Nat.mod_two_eq_zero_or_one j with h2 | h2
  · have e : j / 2 * 2 = j := by omega
    rw [e] at hc he
    rw [he.1] at hv; rw [← hv]; exact hc.1
  · have e : j / 2 * 2 + 1 = j := by omega
    rw [show off + j / 2 * 2 + 1 = off + (j / 2 * 2 + 1) from by omega, e] at hc
    rw [e] at he
    rw [he.2] at hv; rw [← hv]; exact hc.2
end Go.Proofs.YtobepdmpacdakaaGreat

/- Walks: the statements' few, the document's Find. -/
namespace Go.Proofs.YtobepdmpacdakaaGreat
open Go.RowKit

theorem refFind_any (l : List Ent) (n : List UInt8) (v : Value) (w : World) (hv : Ents w v l) :
    Calls Tryz.prog 62 #[v, .string ⟨n.toArray⟩] w fun e w' => e = .returned (.tuple #[.int .i64 (numB l n), .bool (hasB l n)]) ∧ w = w' := by
  obtain ⟨a, ca, rfl, hc, hm, HA0⟩ := hv
  unfold maxLen at hm
  have HA := Lib.hid HA0
  clear HA0
  go_enter Tryz.func62, Tryz.ntmps62
  go_wp2
  go_loop [6] (fun i => ∃ k : Nat, k ≤ l.length ∧ i = .int .i64 k ∧ Aside ((l.take k).any (fun e => e.1 == n) = false)) (fun i => l.length - (intOf i).toNat)
  case atStart => exact ⟨0, Nat.zero_le _, rfl, by (show _ = _); simp⟩
  case round =>
    obtain ⟨k, hk, rfl, HT⟩ := hrel
    by_cases hlt : k < l.length
    · obtain ⟨b, o, rfl, hb, hcl⟩ := HA.out (by omega)
      obtain ⟨c1, c2⟩ := hcl k hlt
      clear hcl
      cases he : (l[k].1 == n)
      · have HT2 := Lib.hid (any_next hlt HT.out (by simpa using he))
        go_wp2
        go_round
        case rel => exact ⟨k + 1, by omega, by go_num, HT2.out⟩
        case measure => simp [intOf]; omega
      · have HF := Lib.hid (find_at hlt HT.out (by simpa using he))
        go_wp2
        go_ret2
        exact ⟨by rw [HF.out.1, HF.out.2]; rfl, rfl⟩
    · obtain rfl : k = l.length := by omega
      have HF := Lib.hid (find_none (l := l) (n := n) (by have := HT.out; rwa [List.take_length] at this))
      go_wp2
      go_ret2
      exact ⟨by rw [HF.out.1, HF.out.2]; rfl, rfl⟩
end Go.Proofs.YtobepdmpacdakaaGreat

/- Slices of inodes: one that came in, one of the call's own. -/
namespace Go.Proofs.YtobepdmpacdakaaGreat
open Go.RowKit

abbrev ndC (x : Nd) : Array Value := #[.int .i64 x.ino, .int .i64 x.kind, .int .i64 x.links, .string ⟨x.data.toArray⟩, .int .i64 x.parent, x.ev]
def ndsV : List Nd → List Value
  | [] => []
  | x :: l => .int .i64 x.ino :: .int .i64 x.kind :: .int .i64 x.links :: .string ⟨x.data.toArray⟩ :: .int .i64 x.parent :: x.ev :: ndsV l
theorem ndsV_len (l : List Nd) : (ndsV l).length = l.length * 6 := by
  induction l with
  | nil => rfl
  | cons e l ih => simp [ndsV, ih]; omega
theorem ndsV_append (a b : List Nd) : ndsV (a ++ b) = ndsV a ++ ndsV b := by
  induction a with
  | nil => rfl
  | cons e l ih => simp [ndsV, ih]

/-- Each inode's entries. -/
def EntsAll (w : World) (l : List Nd) : Prop := ∀ x ∈ l, Ents w x.ev x.ents
theorem EntsAll.below {w w' : World} {l : List Nd} (h : EntsAll w l) (hb : Below w.heap.size w w') : EntsAll w' l := fun x hx => (h x hx).below hb
theorem EntsAll.sub {w : World} {l l' : List Nd} (h : EntsAll w l) (hs : ∀ x ∈ l', x ∈ l) : EntsAll w l' := fun x hx => h x (hs x hx)
theorem Ents.one {w : World} {v : Value} {l : List Ent} (h : Ents w v l) : v.oneCell' = true := by obtain ⟨a, cap, rfl, _⟩ := h; rfl
theorem ndsV_one {w : World} {l : List Nd} (h : EntsAll w l) : ∀ u ∈ ndsV l, u.oneCell' = true := by
  induction l with
  | nil => simp [ndsV]
  | cons e l ih =>
    intro u hu
    simp only [ndsV, List.mem_cons] at hu
    rcases hu with rfl | rfl | rfl | rfl | rfl | rfl | hu
    · rfl
    · rfl
    · rfl
    · rfl
    · rfl
    · exact (h e (by simp)).one
    · exact ih (h.sub (by simp +contextual)) u hu

/-- An inode's six cells. -/
def NdAt (w : World) (b o : Nat) (x : Nd) : Prop :=
  w.cell? ⟨b, o, none⟩ = some (.int .i64 x.ino) ∧ w.cell? ⟨b, o + 1, none⟩ = some (.int .i64 x.kind) ∧ w.cell? ⟨b, o + 2, none⟩ = some (.int .i64 x.links) ∧
    w.cell? ⟨b, o + 3, none⟩ = some (.string ⟨x.data.toArray⟩) ∧ w.cell? ⟨b, o + 4, none⟩ = some (.int .i64 x.parent) ∧ w.cell? ⟨b, o + 5, none⟩ = some x.ev
theorem NdAt.below {w w' : World} {b o n : Nat} {x : Nd} (h : NdAt w b o x) (hb : Below n w w') (hn : b < n) : NdAt w' b o x :=
  ⟨(hb.cell (p := ⟨b, o, none⟩) hn).trans h.1, (hb.cell (p := ⟨b, o + 1, none⟩) hn).trans h.2.1, (hb.cell (p := ⟨b, o + 2, none⟩) hn).trans h.2.2.1, (hb.cell (p := ⟨b, o + 3, none⟩) hn).trans h.2.2.2.1,
    (hb.cell (p := ⟨b, o + 4, none⟩) hn).trans h.2.2.2.2.1, (hb.cell (p := ⟨b, o + 5, none⟩) hn).trans h.2.2.2.2.2⟩
theorem ndsV_at (l : List Nd) : ∀ (i : Nat) (h : i < l.length), (ndsV l)[i * 6]? = some (.int .i64 l[i].ino) ∧ (ndsV l)[i * 6 + 1]? = some (.int .i64 l[i].kind) ∧ (ndsV l)[i * 6 + 2]? = some (.int .i64 l[i].links) ∧
    (ndsV l)[i * 6 + 3]? = some (.string ⟨l[i].data.toArray⟩) ∧ (ndsV l)[i * 6 + 4]? = some (.int .i64 l[i].parent) ∧ (ndsV l)[i * 6 + 5]? = some l[i].ev := by
  induction l with
  | nil => intro i h; simp at h
  | cons e l ih =>
    intro i h
    cases i with
    | zero => exact ⟨rfl, rfl, rfl, rfl, rfl, rfl⟩
    | succ i =>
      have := ih i (by simpa using h)
      rw [show (i + 1) * 6 = i * 6 + 6 from by omega, show i * 6 + 6 + 1 = i * 6 + 1 + 6 from by omega, show i * 6 + 6 + 2 = i * 6 + 2 + 6 from by omega, show i * 6 + 6 + 3 = i * 6 + 3 + 6 from by omega,
        show i * 6 + 6 + 4 = i * 6 + 4 + 6 from by omega, show i * 6 + 6 + 5 = i * 6 + 5 + 6 from by omega]
      simpa [ndsV] using this

/-- A slice that reads as these inodes. -/
def Nds (w : World) (v : Value) (l : List Nd) : Prop :=
  ∃ a cap, v = .slice a l.length cap ∧ l.length ≤ cap ∧ cap ≤ maxLen ∧ EntsAll w l ∧ (a = none → cap = 0) ∧ (0 < l.length → ∃ b off, a = some ⟨b, off, none⟩ ∧ b < w.heap.size ∧ ∀ i (h : i < l.length), NdAt w b (off + i * 6) l[i])

theorem Nds.all {w : World} {v : Value} {l : List Nd} (h : Nds w v l) : EntsAll w l := by obtain ⟨_, _, _, _, _, h, _⟩ := h; exact h
theorem Nds.below {w w' : World} {v : Value} {l : List Nd} (h : Nds w v l) (hb : Below w.heap.size w w') : Nds w' v l := by
  obtain ⟨a, cap, rfl, hc, hm, he, h0, h1⟩ := h
  refine ⟨a, cap, rfl, hc, hm, he.below hb, h0, fun hl => ?_⟩
  obtain ⟨b, off, rfl, hlt, hx⟩ := h1 hl
  exact ⟨b, off, rfl, Nat.lt_of_lt_of_le hlt hb.size, fun i hi => (hx i hi).below hb hlt⟩
theorem Nds.nil_ (w : World) : Nds w (.slice none 0 0) [] := ⟨none, 0, rfl, Nat.zero_le _, Nat.zero_le _, (fun _ h => nomatch h), (fun _ => rfl), (fun h => absurd h (by simp))⟩

/-- What is owned reads so. -/
theorem own_nds {w : World} {base : Nat} {e : TypeId} {v : Value} {n : Nat} {l : List Nd} (h : w.ownsRow base e 6 v n (ndsV l)) (he : EntsAll w l) : Nds w v l := by
  have hlen := h.1
  rw [ndsV_len] at hlen
  obtain rfl : n = l.length := by omega
  rcases h.2 with ⟨rfl, h0⟩ | ⟨g, cap, cur, rfl, hg, hh, hnc, hcm, hsz, htk⟩
  · have : l = [] := List.eq_nil_of_length_eq_zero h0
    subst this
    exact Nds.nil_ w
  · refine ⟨_, cap, rfl, hnc, hcm, he, fun h => (by cases h), fun _ => ⟨g, 0, rfl, (h.lt g rfl).2, fun i hi => ?_⟩⟩
    have hat := ndsV_at l i hi
    have c := fun j (hj : j < l.length * 6) => h.cellAt j hj
    rw [Nat.zero_add]
    exact ⟨(c _ (by omega)).trans hat.1, (c _ (by omega)).trans hat.2.1, (c _ (by omega)).trans hat.2.2.1, (c _ (by omega)).trans hat.2.2.2.1, (c _ (by omega)).trans hat.2.2.2.2.1, (c _ (by omega)).trans hat.2.2.2.2.2⟩
theorem blk_nds {w : World} {g : Nat} {t : TypeId} {L : List Nd} (h : Blk w g t (ndsV L).toArray) (hl : L.length ≤ maxLen) (he : EntsAll w L) (n : Nat) (hn : n = L.length) : Nds w (.slice (some ⟨g, 0, none⟩) n n) L := by
  subst hn
  refine ⟨_, _, rfl, Nat.le_refl _, hl, he, fun h => (by cases h), fun _ => ⟨g, 0, rfl, h.lt, fun i hi => ?_⟩⟩
  have hat := ndsV_at L i hi
  unfold NdAt
  rw [h.cell, h.cell, h.cell, h.cell, h.cell, h.cell, Nat.zero_add]
  simpa using hat

/-- A piece of a slice of inodes. -/
theorem Nds.cut {w : World} {a : Option Addr} {n cap : Nat} {l : List Nd} (h : Nds w (.slice a n cap) l) (k m : Nat) (hk : k ≤ l.length) (hm : k ≤ m) (hml : m ≤ l.length) (a' : Option Addr) (cap' : Nat) (hc : m - k ≤ cap') (hcm : cap' ≤ maxLen) (hn : a' = none → cap' = 0)
    (ha : k < m → ∀ b off, a = some ⟨b, off, none⟩ → a' = some ⟨b, off + k * 6, none⟩) : Nds w (.slice a' (m - k) cap') ((l.take m).drop k) := by
  obtain ⟨x, c, hx, hlc, hcx, he, h0, h1⟩ := h
  simp only [Value.slice.injEq] at hx
  obtain ⟨rfl, rfl, rfl⟩ := hx
  have hlen : ((l.take m).drop k).length = m - k := by rw [List.length_drop, List.length_take, Nat.min_eq_left hml]
  refine ⟨a', cap', by rw [hlen], by rw [hlen]; exact hc, hcm, he.sub fun x hx => List.mem_of_mem_take (List.mem_of_mem_drop hx), hn, fun hl => ?_⟩
  rw [hlen] at hl
  obtain ⟨b, off, rfl, hlt, hcell⟩ := h1 (by omega)
  refine ⟨b, off + k * 6, ha (by omega) b off rfl, hlt, fun i hi => ?_⟩
  rw [hlen] at hi
  have := hcell (k + i) (by omega)
  rw [show off + (k + i) * 6 = off + k * 6 + i * 6 from by omega] at this
  simpa using this
theorem Nds.head {w : World} {a : Option Addr} {n cap : Nat} {l : List Nd} (h : Nds w (.slice a n cap) l) (k cap' : Nat) (hk : k ≤ l.length) (hc : k ≤ cap') (hcm : cap' ≤ maxLen) (hn : a = none → cap' = 0) : Nds w (.slice a k cap') (l.take k) := by
  have := h.cut 0 k (Nat.zero_le _) (Nat.zero_le _) hk a cap' (by omega) hcm hn (fun _ b off e => by rw [e]; simp)
  simpa using this
theorem Nds.tail {w : World} {a : Option Addr} {n cap : Nat} {l : List Nd} (h : Nds w (.slice a n cap) l) (k : Nat) (a' : Option Addr) (m cap' : Nat) (hk : k ≤ l.length) (hm : m = l.length - k) (hc : l.length - k ≤ cap') (hcm : cap' ≤ maxLen) (hn : a' = none → cap' = 0)
    (ha : k < l.length → a' = a.map fun x => x.add (k * 6)) : Nds w (.slice a' m cap') (l.drop k) := by
  subst hm
  have := h.cut k l.length hk hk (Nat.le_refl _) a' cap' hc hcm hn (fun hkl b off e => by rw [ha hkl, e, Option.map_some, Addr.add_lit])
  simpa using this

/-- The cells of a slice of inodes, as a source of an append. -/
theorem Nds.src {w : World} {a : Option Addr} {n cap : Nat} {l : List Nd} (h : Nds w (.slice a n cap) l) : ∀ ad, a = some ad → ∀ j v, (ndsV l)[j]? = some v → w.cell? (ad.add j) = some v := by
  intro ad had j v hv
  have hj : j < l.length * 6 := by
    rcases Nat.lt_or_ge j (ndsV l).length with h | h
    · rwa [ndsV_len] at h
    · rw [List.getElem?_eq_none h] at hv; cases hv
  obtain ⟨x, c, hx, _, _, _, _, h1⟩ := h
  simp only [Value.slice.injEq] at hx
  obtain ⟨rfl, rfl, rfl⟩ := hx
  obtain ⟨b, off, e, hlt, hcell⟩ := h1 (by omega)
  obtain rfl : ad = ⟨b, off, none⟩ := by rw [had] at e; exact Option.some.inj e
  obtain ⟨q, r, hr, rfl⟩ : ∃ q r, r < 6 ∧ j = q * 6 + r := ⟨j / 6, j % 6, by omega, by omega⟩
  have hc := hcell q (by omega)
  have he := ndsV_at l q (by omega)
  rw [Addr.add_lit]
  have hm : r = 0 ∨ r = 1 ∨ r = 2 ∨ r = 3 ∨ r = 4 ∨ r = 5 := by omega
  unfold NdAt at hc
  rw [← Nat.add_assoc]
  rcases hm with rfl | rfl | rfl | rfl | rfl | rfl
  · rw [Nat.add_zero] at hv ⊢; rw [← hv, he.1]; exact hc.1
  · rw [← hv, he.2.1]; exact hc.2.1
  · rw [← hv, he.2.2.1]; exact hc.2.2.1
  · rw [← hv, he.2.2.2.1]; exact hc.2.2.2.1
  · rw [← hv, he.2.2.2.2.1]; exact hc.2.2.2.2.1
  · rw [← hv, he.2.2.2.2.2]; exact hc.2.2.2.2.2
end Go.Proofs.YtobepdmpacdakaaGreat

/- Walks: the search for a number, by halves. -/
namespace Go.Proofs.YtobepdmpacdakaaGreat
open Go.RowKit

theorem holdN_any (x : Nd) (n : Int) (w : World) :
    Calls Tryz.prog 109 #[.agg (ndC x), .int .i64 n] w fun e w' => e = .returned (.int .i64 (Lib.compareInt x.ino n)) ∧ Below w.heap.size w w' := by
  go_enter Tryz.func109, Tryz.ntmps109
  have hb : Below w.heap.size w (w.alloc (.cells (ndC x) 45)) := (Below.refl _ w).alloc (Nat.le_refl _) _
  go_wp2_with fail; refine (Tryz.cmp_Compare_int _ _ _).mono ?_; rintro e w' ⟨rfl, rfl⟩
  go_wp2
  go_ret
  exact ⟨rfl, hb⟩

theorem cmpI_lt (x y : Int) : decide (Lib.compareInt x y < 0) = decide (x < y) := by
  unfold Lib.compareInt; split
  · simp [*]
  · split <;> simp [*]
theorem cmpI_eq (x y : Int) : (Lib.compareInt x y == 0) = (x == y) := by
  unfold Lib.compareInt; split
  · have : x ≠ y := by omega
    simp [this]
  · split
    · have : x ≠ y := by omega
      simp [this]
    · have : x = y := by omega
      simp [this]

set_option maxHeartbeats 2000000 in
theorem halvesN_any (l : List Nd) (n : Int) (v : Value) (w : World) (hv : Nds w v l) (hs : riseP l) (hl : l.length ≤ 1000000) :
    Calls Tryz.prog 108 #[v, .int .i64 n, .func (.func 109) #[] #[]] w fun e w' =>
      ∃ lo : Nat, e = .returned (.tuple #[.int .i64 lo, .bool (hasN l n)]) ∧ SrchN l n lo ∧ Below w.heap.size w w' := by
  obtain ⟨a, ca, rfl, hc, hm, _, _, HA0⟩ := hv
  unfold maxLen at hm
  have HA := Lib.hid HA0
  have HS := Lib.hid hs
  clear HA0 hs
  go_enter Tryz.func108, Tryz.ntmps108
  go_wp2
  go_loopg [9, 10] l.length (fun g s9 s10 wr => ∃ lo hi : Nat, s9 = .int .i64 lo ∧ s10 = .int .i64 hi ∧ lo ≤ hi ∧ hi ≤ l.length ∧ hi - lo ≤ g ∧ Below w.heap.size w wr ∧
    Aside ((∀ t (ht : t < l.length), t < lo → l[t].ino < n) ∧ (∀ t (ht : t < l.length), hi ≤ t → n ≤ l[t].ino)))
  case atStart => exact ⟨0, l.length, rfl, rfl, Nat.zero_le _, Nat.le_refl _, by omega, Below.refl _ _, ⟨fun t ht h => by omega, fun t ht h => by omega⟩⟩
  case round =>
    obtain ⟨lo, hi, rfl, rfl, hlh, hin, hg, hbw, I⟩ := hrel
    by_cases hlt : lo < hi
    · obtain ⟨b, o, rfl, hb, hcl⟩ := HA.out (by omega)
      have hmid : (lo + hi) / 2 < l.length := by omega
      obtain ⟨c1, c2, c3, c4, c5, c6⟩ := (hcl _ hmid).below hbw hb
      clear hcl
      generalize hy : l[(lo + hi) / 2] = y at c1 c2 c3 c4 c5 c6
      have Y := Lib.hid hy
      clear hy
      have CM := Lib.hid (cmpI_lt y.ino n)
      go_wp2_with fail
      refine (holdN_any y n _).mono ?_
      rintro e w2 ⟨rfl, b2⟩
      replace hbw := hbw.trans (b2.mono hbw.size)
      by_cases hl1 : y.ino < n
      · have hcm : decide (Lib.compareInt y.ino n < 0) = true := CM.out.trans (decide_eq_true hl1)
        have I2 := Lib.hid (show (∀ t (ht : t < l.length), t < (lo + hi) / 2 + 1 → l[t].ino < n) ∧ (∀ t (ht : t < l.length), hi ≤ t → n ≤ l[t].ino) from ⟨fun t ht h => by
          have := rise_upto HS.out hmid (a := t) (by omega); rw [Y.out] at this; omega, I.out.2⟩)
        clear hl1
        go_wp2
        go_roundg (hi - ((lo + hi) / 2 + 1))
        case measure => omega
        case rel => exact ⟨(lo + hi) / 2 + 1, hi, by rw [show ((lo : Int) + (hi : Int)) / 2 + 1 = (((lo + hi) / 2 + 1 : Nat) : Int) by omega], rfl, by omega, hin, Nat.le_refl _, hbw, I2.out⟩
      · have hcm : decide (Lib.compareInt y.ino n < 0) = false := CM.out.trans (decide_eq_false hl1)
        have I2 := Lib.hid (show (∀ t (ht : t < l.length), t < lo → l[t].ino < n) ∧ (∀ t (ht : t < l.length), (lo + hi) / 2 ≤ t → n ≤ l[t].ino) from ⟨I.out.1, fun t ht h => by
          have := rise_upto HS.out ht (a := (lo + hi) / 2) h; rw [Y.out] at this; omega⟩)
        clear hl1
        go_wp2
        go_roundg ((lo + hi) / 2 - lo)
        case measure => omega
        case rel => exact ⟨lo, (lo + hi) / 2, rfl, by rw [show ((lo : Int) + (hi : Int)) / 2 = (((lo + hi) / 2 : Nat) : Int) by omega], by omega, by omega, Nat.le_refl _, hbw, I2.out⟩
    · obtain rfl : hi = lo := by omega
      have SE := Lib.hid (srchN_end HS.out hin I.out.1 I.out.2)
      by_cases hn : hi < l.length
      · obtain ⟨b, o, rfl, hb, hcl⟩ := HA.out (by omega)
        obtain ⟨c1, c2, c3, c4, c5, c6⟩ := (hcl _ hn).below hbw hb
        clear hcl
        have SH : Hid (hasN l n = (l[hi].ino == n)) := by (show _ = _); rw [SE.out.2, dif_pos hn]
        generalize hy : l[hi] = y at c1 c2 c3 c4 c5 c6 SH
        clear hy
        have CM := Lib.hid (cmpI_eq y.ino n)
        go_wp2_with fail
        refine (holdN_any y n _).mono ?_
        rintro e w2 ⟨rfl, b2⟩
        replace hbw := hbw.trans (b2.mono hbw.size)
        go_wp2
        go_ret2
        exact ⟨hi, by rw [SH.out, ← CM.out]; rfl, SE.out.1, hbw⟩
      · have SH : Hid (hasN l n = false) := by (show _ = _); rw [SE.out.2, dif_neg hn]
        go_wp2
        go_ret2
        exact ⟨hi, by rw [SH.out]; rfl, SE.out.1, hbw⟩

theorem searchN_any (l : List Nd) (n : Int) (v : Value) (w : World) (hv : Nds w v l) (hs : riseP l) (hl : l.length ≤ 1000000) :
    Calls Tryz.prog 91 #[v, .int .i64 n] w fun e w' =>
      ∃ lo : Nat, e = .returned (.tuple #[.int .i64 lo, .bool (hasN l n)]) ∧ SrchN l n lo ∧ Below w.heap.size w w' := by
  obtain ⟨a, ca, rfl, hc, hm, HA0⟩ := id hv
  clear HA0
  go_enter Tryz.func91, Tryz.ntmps91
  go_wp2_with fail; refine (halvesN_any l n _ _ hv hs hl).mono ?_; rintro e w1 ⟨lo, rfl, hS, hb⟩
  go_wp2
  go_ret2
  exact ⟨lo, rfl, hS, hb⟩
end Go.Proofs.YtobepdmpacdakaaGreat

/- Walks: slices.Grow from nil, slices.Concat. -/
namespace Go.Proofs.YtobepdmpacdakaaGreat
open Go.RowKit

theorem infoN : (Tryz.prog.info? 45).map (fun i => (i.zero, i.size, i.bytes)) = some (some (.agg #[.int .i64 0, .int .i64 0, .int .i64 0, .string ⟨#[]⟩, .int .i64 0, .slice none 0 0]), 6, 72) := by kernel_rfl

/-- 'append(s, x...)' onto what is the call's own, whatever slice x is. -/
theorem wpList_append_any {P : Program} {w : World} {ops : Array Oper} {rest : List Oper} {o : Oper} {a : Act} {Q : Exit → Act → World → Prop} (hgd : o.guard = none) (s x : Operand) (t e : TypeId)
    (ho : o.op = .call { callee := .builtin .append, args := #[s, x], argTypes := #[t, t] })
    {i : TypeInfo} {z : Value} {size bytes : Nat} (ht : P.underlying t = some (.slice e)) (hi : P.info? e = some i) (hz : i.zero = some z)
    (hsize : i.size = size) (hby : i.bytes = bytes) (hzs : z.cells.size = size) (hsz : 0 < size) (hbs : bytes ≤ 128)
    (base : Nat) {v : Value} {n : Nat} {xs : List Value} (ao : Option Addr) (m c : Nat) (news : List Value) (hs : a.eval s = v) (hx : a.eval x = .slice ao m c) (hown : w.ownsRow base e size v n xs) (hnone : ao = none → m = 0 ∧ c = 0)
    (hm : news.length = m * size) (hc : ∀ ad, ao = some ad → ∀ j u, news[j]? = some u → w.cell? (ad.add j) = some u) (h1 : ∀ u ∈ news, u.oneCell' = true) (hb : n + m ≤ 1099511627776) (hbase : base ≤ w.heap.size)
    (hK : ∀ v' w', w'.ownsRow base e size v' (n + m) (xs ++ news) → Below base w w' → wpList P ops Q rest (a.put o.dst v') w') :
    wpList P ops Q (o :: rest) a w := by
  cases ao with
  | some ad =>
    refine wpList_append_own _ hgd s x t ho base e i z size bytes ht hi hz hsize hby hzs hsz v n xs hs hown ad m c news hx hm (hc ad rfl) h1 (by unfold maxLen; omega) ?_ hbase ?_
    · calc (n + m) * bytes ≤ 1099511627776 * 128 := Nat.mul_le_mul hb hbs
        _ ≤ 140737488355328 := by decide
    · intro v' w' h2 h3 _
      exact hK v' w' h2 (own_below hown h3 hbase)
  | none =>
    obtain ⟨rfl, rfl⟩ := hnone rfl
    have hnews : news = [] := List.eq_nil_of_length_eq_zero (by simpa using hm)
    subst hnews
    refine wpList_plain hgd fun K hK' => ?_
    have hrun := run_append_owned_none (P := P) w base t o.type e i size ht hi _ n xs hown
    unfold Oper.wp
    simp [execOp, ho, resolve, invoke, builtin, hs, hx, hrun, Result.andThen]
    exact hK' _ _ (by simpa using hK v w (by simpa using hown) (Below.refl _ _))

/-- The same as one step of a region that draws its order. -/
theorem step_append_any {P : Program} {w : World} {ops : Array Oper} {o : Oper} {a : Act} {K : Act → World → Prop} {Q : Exit → Act → World → Prop} {E : Prop} (hgd : o.guard = none) (s x : Operand) (t e : TypeId)
    (ho : o.op = .call { callee := .builtin .append, args := #[s, x], argTypes := #[t, t] })
    {i : TypeInfo} {z : Value} {size bytes : Nat} (ht : P.underlying t = some (.slice e)) (hi : P.info? e = some i) (hz : i.zero = some z)
    (hsize : i.size = size) (hby : i.bytes = bytes) (hzs : z.cells.size = size) (hsz : 0 < size) (hbs : bytes ≤ 128)
    (base : Nat) {v : Value} {n : Nat} {xs : List Value} (ao : Option Addr) (m c : Nat) (news : List Value) (hs : a.eval s = v) (hx : a.eval x = .slice ao m c) (hown : w.ownsRow base e size v n xs) (hnone : ao = none → m = 0 ∧ c = 0)
    (hm : news.length = m * size) (hc : ∀ ad, ao = some ad → ∀ j u, news[j]? = some u → w.cell? (ad.add j) = some u) (h1 : ∀ u ∈ news, u.oneCell' = true) (hb : n + m ≤ 1099511627776) (hbase : base ≤ w.heap.size)
    (hK : ∀ v' w', w'.ownsRow base e size v' (n + m) (xs ++ news) → Below base w w' → K (a.put o.dst v') w') :
    if Region.wanted o (yielded ops a.tmps) = true then Oper.wp P o a w K Q else E := by
  rw [if_pos (by simp [Region.wanted, hgd])]
  cases ao with
  | some ad =>
    refine wp_append_own w s x t ho base e i z size bytes ht hi hz hsize hby hzs hsz v n xs hs hown ad m c news hx hm (hc ad rfl) h1 (by unfold maxLen; omega) ?_ hbase ?_
    · calc (n + m) * bytes ≤ 1099511627776 * 128 := Nat.mul_le_mul hb hbs
        _ ≤ 140737488355328 := by decide
    · intro v' w' h2 h3 _
      exact hK v' w' h2 (own_below hown h3 hbase)
  | none =>
    obtain ⟨rfl, rfl⟩ := hnone rfl
    have hnews : news = [] := List.eq_nil_of_length_eq_zero (by simpa using hm)
    subst hnews
    have hrun := run_append_owned_none (P := P) w base t o.type e i size ht hi _ n xs hown
    unfold Oper.wp
    simp [execOp, ho, resolve, invoke, builtin, hs, hx, hrun, Result.andThen]
    exact hK v w (by simpa using hown) (Below.refl _ _)

/-- A slice of slices of inodes. -/
def PartsN (w : World) (v : Value) (ps : List (List Nd)) : Prop :=
  ∃ a cap, v = .slice a ps.length cap ∧ (0 < ps.length → ∃ b off, a = some ⟨b, off, none⟩ ∧ b < w.heap.size ∧ ∀ i (h : i < ps.length), ∃ x, w.cell? ⟨b, off + i, none⟩ = some x ∧ Nds w x ps[i])

theorem flatP_take (ps : List (List Nd)) (k : Nat) (h : k < ps.length) : (ps.take (k + 1)).flatten = (ps.take k).flatten ++ ps[k] := by
  rw [List.take_succ_eq_append_getElem h, List.flatten_append]; simp
def flatK (ps : List (List Nd)) (k : Nat) : Nat := (ps.take k).flatten.length
theorem flatK_next {ps : List (List Nd)} {k : Nat} (h : k < ps.length) : flatK ps (k + 1) = flatK ps k + ps[k].length := by
  unfold flatK; rw [flatP_take ps k h, List.length_append]
theorem flatK_le (ps : List (List Nd)) (k : Nat) : flatK ps k ≤ ps.flatten.length := by
  unfold flatK; conv => rhs; rw [← List.take_append_drop k ps, List.flatten_append, List.length_append]
  omega
theorem flatK_end (ps : List (List Nd)) : flatK ps ps.length = ps.flatten.length := by unfold flatK; rw [List.take_length]

set_option maxRecDepth 100000 in
set_option maxHeartbeats 2000000 in
theorem GrowN_any (n : Nat) (hn : n ≤ 1000000) (w : World) :
    Calls Tryz.prog 122 #[.slice none 0 0, .int .i64 n] w fun e w' => ∃ v, e = .returned v ∧ w'.ownsRow w.heap.size 45 6 v 0 [] ∧ Below w.heap.size w w' := by
  by_cases h0 : n = 0
  · subst h0
    go_enter Tryz.func122, Tryz.ntmps122
    go_wp2
    go_ret
    exact ⟨_, rfl, World.ownsRow_nil _ _ _ _, Below.refl _ _⟩
  · obtain ⟨i0, hi, hz0, hz1, hz2⟩ := info_parts infoN
    have hpos : (0 : Int) < (n : Int) := by omega
    have hrz : ∀ ty, (Builtin.append_ #[22, 3] ty #[.slice none 0 0, .int .i64 (n : Int)]).run Tryz.prog w =
        .ok (.slice (some ⟨w.heap.size, 0, none⟩) n (grownCap w n 0 45)) (w.drew.alloc (.cells (#[] ++ Builtin.zeroCells (Value.agg #[.int .i64 0, .int .i64 0, .int .i64 0, .string ⟨#[]⟩, .int .i64 0, .slice none 0 0]).cells n ++ Builtin.zeroCells (Value.agg #[.int .i64 0, .int .i64 0, .int .i64 0, .string ⟨#[]⟩, .int .i64 0, .slice none 0 0]).cells (grownCap w n 0 45 - n)) 45)) := fun ty => by
      have h := Lib.run_append_grow_zeros (P := Tryz.prog) w 22 3 ty 45 i0 _ .i64 .i64 Tryz.underlying22 Tryz.underlying3 hi hz0 none 0 0 [] (run_firstCells_none w.drew i0.size 0 0 0) n (by omega) (by rw [hz1]; decide) (by omega) (by omega)
        (by rw [hz2]; omega) (growslice_fits (by omega) (by rw [hz2]; omega))
      simpa using h
    have hGn : n ≤ grownCap w n 0 45 := grownCap_ge w _ _ _
    have hGm := grownCap_le_maxLen w n 0 45 (by unfold maxLen; omega)
    generalize grownCap w n 0 45 = G at hrz hGn hGm
    generalize hC : (#[] ++ Builtin.zeroCells (Value.agg #[.int .i64 0, .int .i64 0, .int .i64 0, .string ⟨#[]⟩, .int .i64 0, .slice none 0 0]).cells n ++ Builtin.zeroCells (Value.agg #[.int .i64 0, .int .i64 0, .int .i64 0, .string ⟨#[]⟩, .int .i64 0, .slice none 0 0]).cells (G - n)) = C at hrz
    have hCs : C.size = G * 6 := by
      have e6 : (Value.agg #[.int .i64 0, .int .i64 0, .int .i64 0, .string ⟨#[]⟩, .int .i64 0, .slice none 0 0]).cells.size = 6 := rfl
      rw [← hC, Array.size_append, Array.size_append, size_zeroCells, size_zeroCells, e6]
      simp; omega
    clear hC
    have hG63 : G ≤ 9223372036854775807 := by unfold maxLen at hGm; omega
    go_enter Tryz.func122, Tryz.ntmps122
    go_wp2_with (at_builtin; refine Lib.wpList_append_run _ rfl _ _ _ _ rfl _ _ rfl rfl _ _ (hrz _) ?_)
    all_goals (go_ret; exact ⟨_, rfl, World.ownsRow_made w.drew C G (Nat.le_refl _) hGm hCs, (Below.refl _ w).drew.alloc (Nat.le_refl _) _⟩)

/-- What is new: an owned row of inodes. -/
def NewNds (w : World) (L : List Nd) (v : Value) (w' : World) : Prop := w'.ownsRow w.heap.size 45 6 v L.length (ndsV L) ∧ Below w.heap.size w w'

set_option maxHeartbeats 4000000 in
theorem ConcatN_any (ps : List (List Nd)) (v : Value) (w : World) (hv : PartsN w v ps) (hp : ps.length ≤ 1000000) (hn : ps.flatten.length ≤ 1000000) :
    Calls Tryz.prog 107 #[v] w fun e w' => ∃ x, e = .returned x ∧ NewNds w ps.flatten x w' := by
  obtain ⟨a, ca, rfl, HA0⟩ := hv
  have HA := Lib.hid HA0
  clear HA0
  obtain ⟨i0, hi, hz0, hz1, hz2⟩ := info_parts infoN
  have hle := flatK_le ps
  have hend := flatK_end ps
  generalize hF : ps.flatten = F at *
  have HF := Lib.hid hF
  clear hF
  go_enter Tryz.func107, Tryz.ntmps107
  go_wp2
  go_loop [3, 11] (fun s3 s11 => ∃ k : Nat, k ≤ ps.length ∧ s11 = .int .i64 k ∧ s3 = .int .i64 (flatK ps k)) (fun _ s11 => ps.length - (intOf s11).toNat)
  case atStart => exact ⟨0, Nat.zero_le _, rfl, rfl⟩
  case round =>
    obtain ⟨k, hk, rfl, rfl⟩ := hrel
    by_cases hlt : k < ps.length
    · obtain ⟨b, o, rfl, hb, hcl⟩ := HA.out (by omega)
      obtain ⟨x, c1, ⟨ax, cx, rfl, hx1, hx2, hx3⟩⟩ := hcl k hlt
      clear hcl hx3 hx1 hx2
      have hf1 := hle (k + 1)
      have HN := Lib.hid (flatK_next hlt)
      have hfl : flatK ps k + ps[k].length ≤ 1000000 := by rw [HN.out] at hf1; omega
      have hng : ¬ ((flatK ps k : Int) + (ps[k].length : Int) < 0) := by omega
      go_wp2
      go_round
      case rel => exact ⟨k + 1, by omega, by go_num, by rw [HN.out]; go_num⟩
      case measure => simp [intOf]; omega
    · obtain rfl : k = ps.length := by omega
      rw [hend]
      go_wp2_with fail; refine (GrowN_any F.length hn _).mono ?_; rintro e w1 ⟨vg, rfl, hown, hb1⟩
      have HO := Lib.hid hown
      clear hown
      go_wp2
      go_loopw [6, 27] (fun s6 s27 wr => ∃ k : Nat, k ≤ ps.length ∧ s27 = .int .i64 k ∧ Below w.heap.size w wr ∧ Aside (wr.ownsRow w.heap.size 45 6 s6 (flatK ps k) (ndsV (ps.take k).flatten))) (fun _ s27 _ => ps.length - (intOf s27).toNat)
      case atStart => exact ⟨0, Nat.zero_le _, rfl, hb1, by (show World.ownsRow _ _ _ _ _ _ _); simpa [flatK, ndsV] using HO.out⟩
      case round =>
        clear HO hb1
        obtain ⟨k, hk, rfl, hbw, HO⟩ := hrel
        by_cases hlt : k < ps.length
        · obtain ⟨b, o, rfl, hb, hcl⟩ := HA.out (by omega)
          obtain ⟨x, c0, hx⟩ := hcl k hlt
          have c1 : wr.cell? ⟨b, o + k, none⟩ = some x := (hbw.cell (p := ⟨b, o + k, none⟩) hb).trans c0
          clear hcl c0
          have hxs := hx.below hbw
          obtain ⟨ax, cx, rfl, hx1, hx2, hx4, hx0, hx3⟩ := id hx
          clear hx3 hx1 hx2 hx4 hx
          have hf1 := hle (k + 1)
          have HN := Lib.hid (flatK_next hlt)
          have hfl : flatK ps k + ps[k].length ≤ F.length := by rw [HN.out] at hf1; omega
          have HFT := Lib.hid (flatP_take ps k hlt)
          have HX0 : Hid (ax = none → ps[k].length = 0 ∧ cx = 0) := by
            intro h
            refine ⟨?_, hx0 h⟩
            obtain ⟨_, _, e, hc1, _⟩ := hxs
            simp only [Value.slice.injEq] at e
            obtain ⟨rfl, _, rfl⟩ := e
            have := hx0 h
            omega
          have HXS := Lib.hid hxs
          have hsz := hbw.size
          clear hxs hx0
          go_wp2_with (at_builtin; refine wpList_append_any rfl (.tmp 31) (.tmp 32) 22 45 rfl Tryz.underlying22 hi hz0 hz1 hz2 rfl (by decide) (by decide) w.heap.size ax ps[k].length cx (ndsV ps[k]) rfl rfl HO.out HX0.out (ndsV_len _) HXS.out.src (ndsV_one HXS.out.all) (by omega) hsz ?_; intro v2 w2 hown2 hb2)
          have HO2 : Hid (w2.ownsRow w.heap.size 45 6 v2 (flatK ps (k + 1)) (ndsV (ps.take (k + 1)).flatten)) := by
            (show World.ownsRow _ _ _ _ _ _ _); rw [HN.out, HFT.out, ndsV_append]; exact hown2
          have hb3 := hbw.trans hb2
          clear hown2 hb2
          go_roundw
          case rel => exact ⟨k + 1, by omega, by go_num, hb3, HO2.out⟩
          case measure => simp [intOf]; omega
        · obtain rfl : k = ps.length := by omega
          have h1 := HO.out
          rw [hend, List.take_length, HF.out] at h1
          have HBF := Lib.hid h1
          clear h1
          clear HO
          go_wp2
          go_ret
          exact ⟨_, rfl, HBF.out, hbw⟩
end Go.Proofs.YtobepdmpacdakaaGreat

/- copy(dst, src) into a row known whole, at elements of whatever number of cells. No program's function. -/
namespace Go.Proofs.YtobepdmpacdakaaGreat
open Go.RowKit

theorem run_copy_size {P : Program} (w : World) (dT sT ty elem : TypeId) (sz : Nat) (g o dLen dCap : Nat) (a : Addr) (sLen sCap : Nat) (cur : Array Value) (t : TypeId) (cs : List Value)
    (hu : P.underlying dT = some (.slice elem)) (hs : (P.info? elem).map (·.size) = some sz)
    (hg : w.heap[g]? = some (.cells cur t (0, 0))) (hn : cs.length = Nat.min sLen dLen * sz)
    (hsrc : ∀ j v, cs[j]? = some v → w.cell? (a.add j) = some v) (hfit : o + cs.length ≤ cur.size) (h1 : ∀ v ∈ cs, v.oneCell' = true) :
    (Builtin.copy_ #[dT, sT] ty #[.slice (some ⟨g, o, none⟩) dLen dCap, .slice (some a) sLen sCap]).run P w =
      .ok (goInt (Nat.min sLen dLen)) (w.setRow g (cur.toList.take o ++ cs ++ cur.toList.drop (o + cs.length)).toArray) := by
  have hl := run_loadCells_list (P := P) w a cs hsrc
  have hst := run_storeCells_at P g o t cs 0 cur w hg (by simpa using hfit) h1
  cases hq : P.info? elem with
  | none => simp [hq] at hs
  | some i =>
    have hi : i.size = sz := by simpa [hq] using hs
    simp [Builtin.copy_, run_underlying hu, Builtin.lenOf, Builtin.firstCells, sizeOf, typeInfo, hq, hi, ← hn, hl, hst]

theorem run_copy_zero {P : Program} (w : World) (dT sT ty elem : TypeId) (sz : Nat) (d a : Option Addr) (dLen dCap sLen sCap : Nat) (hu : P.underlying dT = some (.slice elem)) (hs : (P.info? elem).map (·.size) = some sz) (hn : Nat.min sLen dLen = 0) :
    (Builtin.copy_ #[dT, sT] ty #[.slice d dLen dCap, .slice a sLen sCap]).run P w = .ok (goInt 0) w := by
  cases hq : P.info? elem with
  | none => simp [hq] at hs
  | some i =>
    have hl : ∀ (x : Addr), (loadCells x 0).run P w = .ok #[] w := fun x => by simpa using run_loadCells_list (P := P) w x [] (by simp)
    cases d <;> cases a <;> simp [Builtin.copy_, run_underlying hu, Builtin.lenOf, Builtin.firstCells, sizeOf, typeInfo, hq, hn, storeCells, hl]

/-- The run, to be laid ahead of the walk. -/
theorem run_copy_splice {P : Program} (w : World) (dT sT ty elem : TypeId) (sz : Nat) (hu : P.underlying dT = some (.slice elem)) (hsz : (P.info? elem).map (·.size) = some sz)
    (g off dLen dCap : Nat) (sp : Option Addr) (sLen sCap m : Nat) (hm : Nat.min sLen dLen = m) (cur : List Value) (t : TypeId) (hg : w.heap[g]? = some (.cells cur.toArray t (0, 0))) (cs : List Value) (hn : cs.length = m * sz)
    (hpos : 0 < m → ∃ ad, sp = some ad ∧ ∀ j v, cs[j]? = some v → w.cell? (ad.add j) = some v) (hfit : off + cs.length ≤ cur.length) (h1 : ∀ v ∈ cs, v.oneCell' = true) :
    ∃ w', (Builtin.copy_ #[dT, sT] ty #[.slice (some ⟨g, off, none⟩) dLen dCap, .slice sp sLen sCap]).run P w = .ok (goInt m) w' ∧ w'.heap[g]? = some (.cells (splice cur off cs).toArray t (0, 0)) ∧ ∀ B w0, Below B w0 w → B ≤ g → Below B w0 w' := by
  by_cases h0 : m = 0
  · subst h0
    obtain rfl : cs = [] := List.eq_nil_of_length_eq_zero (by simpa using hn)
    exact ⟨w, run_copy_zero w dT sT ty elem sz _ _ _ _ _ _ hu hsz hm, by simpa [splice] using hg, fun B w0 hb _ => hb⟩
  · obtain ⟨ad, rfl, hsrc⟩ := hpos (by omega)
    have hrun := run_copy_size (P := P) w dT sT ty elem sz g off dLen dCap ad sLen sCap cur.toArray t cs hu hsz hg (by rw [hm]; exact hn) hsrc (by simpa using hfit) h1
    rw [hm] at hrun
    exact ⟨_, hrun, by simpa [splice] using setRow_heap w g _ _ t _ hg, fun B w0 hb hBg => below_setRow hb hBg _⟩

theorem wpList_copy_size {P : Program} {w : World} {ops : Array Oper} {rest : List Oper} {o : Oper} {a : Act} {Q : Exit → Act → World → Prop} (hgd : o.guard = none) (d s : Operand) (dT sT : TypeId)
    (ho : o.op = .call { callee := .builtin .copy, args := #[d, s], argTypes := #[dT, sT] }) (elem : TypeId) (sz : Nat) (hu : P.underlying dT = some (.slice elem)) (hsz : (P.info? elem).map (·.size) = some sz)
    (dp sp : Option Addr) (dLen dCap sLen sCap : Nat) (hd : a.eval d = .slice dp dLen dCap) (hs : a.eval s = .slice sp sLen sCap) (m : Nat) (hm : Nat.min sLen dLen = m)
    (g off : Nat) (cur : List Value) (t : TypeId) (hg : w.heap[g]? = some (.cells cur.toArray t (0, 0))) (cs : List Value) (hn : cs.length = m * sz)
    (hpos : 0 < m → dp = some ⟨g, off, none⟩ ∧ ∃ ad, sp = some ad ∧ ∀ j v, cs[j]? = some v → w.cell? (ad.add j) = some v)
    (hfit : off + cs.length ≤ cur.length) (h1 : ∀ v ∈ cs, v.oneCell' = true) (B : Nat) (w0 : World) (hb : Below B w0 w) (hBg : B ≤ g)
    (h : ∀ w', Hid (w'.heap[g]? = some (.cells (splice cur off cs).toArray t (0, 0))) → Below B w0 w' → wpList P ops Q rest (a.put o.dst (goInt m)) w') :
    wpList P ops Q (o :: rest) a w := by
  refine wpList_plain hgd fun K hK => ?_
  by_cases h0 : m = 0
  · subst h0
    obtain rfl : cs = [] := List.eq_nil_of_length_eq_zero (by simpa using hn)
    have hrun := run_copy_zero (P := P) w dT sT o.type elem sz dp sp dLen dCap sLen sCap hu hsz hm
    unfold Oper.wp
    simp [execOp, ho, resolve, invoke, builtin, hd, hs, hrun, Result.andThen]
    exact hK _ _ (h w (show _ = _ by simpa [splice] using hg) hb)
  · obtain ⟨rfl, ad, rfl, hsrc⟩ := hpos (by omega)
    have hrun := run_copy_size (P := P) w dT sT o.type elem sz g off dLen dCap ad sLen sCap cur.toArray t cs hu hsz hg (by rw [hm]; exact hn) hsrc (by simpa using hfit) h1
    rw [hm] at hrun
    unfold Oper.wp
    simp [execOp, ho, resolve, invoke, builtin, hd, hs, hrun, Result.andThen]
    exact hK _ _ (h _ (show _ = _ by simpa [splice] using setRow_heap w g _ _ t _ hg) (below_setRow hb hBg _))
end Go.Proofs.YtobepdmpacdakaaGreat

/- strings.Clone: the same bytes. -/
namespace Go.Proofs.YtobepdmpacdakaaGreat
open Go.RowKit

theorem Clone_any (l : List UInt8) (w : World) (hl : l.length ≤ 100000000) :
    Calls Tryz.prog 57 #[.string ⟨l.toArray⟩] w fun e w' => e = .returned (.string ⟨l.toArray⟩) ∧ Below w.heap.size w w' := by
  go_enter Tryz.func57, Tryz.ntmps57
  go_wp2_with fail
  refine (Tryz.stringslite_Clone _ _ (by simp [ByteArray.size]; omega)).mono ?_
  rintro e w' ⟨rfl, hB⟩
  go_wp2
  go_ret
  exact ⟨rfl, hB⟩
end Go.Proofs.YtobepdmpacdakaaGreat
