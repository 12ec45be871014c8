/- Texts put together: MayB, Pure04, Pure05, Pure06, Pure07, Pure08, Aid, Strs, Blk, Ents04, Nds05, Shelf, WalkA05, WalkB05, WalkC05. -/
import Derived.Lib.Bytealg
import Derived.WalkKit
import Derived.WalkSpells
import Derived.WalkLawsBesides
import Derived.Lib.Hide
import Derived.ShutString
import Derived.Lib.AppendStr
import Derived.Lib.SmallJoins
import Derived.RangeFuncBox
import Derived.Laws.CopyOwn
import Derived.Laws.OwnMore
import Derived.Shelf.Strings.Builder1
import Derived.Shelf.Small.Wraps
import Derived.Shelf.Strings.BuilderF
import Derived.Shelf.Strings.BuilderK
import Derived.Shelf.LaysM
import Derived.Shelf.Strconv.Clone
import Derived.Shelf.Strings.Search1
import Derived.Shelf.Strings.Search2
import Derived.Shelf.Strings.Cut
import Derived.Shelf.Strings.Shaped
import Derived.Shelf.Strings.Prefix
import Derived.Shelf.Strings.BuilderCap
import Derived.Ground.Names2Prog
import Derived.Shelf.Slices.Clone
import Derived.Shelf.Slices.SearchI
import Derived.Test.YtpeghnhaekebdaaProg
import Derived.Test.YtpeghnhaekebdaaChecked
import Derived.Deep.LoopGhost
import Derived.Lib.Small
import Derived.OwnWalk
import Derived.Lib.AppendZerosOnto
import Derived.Lib.SliceRun
import Derived.Lib.Walk
import Derived.Deep.RegionWith
import Derived.Maps.AppendAt
import Derived.Deep.Cut
import Derived.Deep.CutRange
set_option linter.unusedVariables false
set_option linter.unusedSimpArgs false
/- A name that may be. No program's function. -/
namespace Go.Proofs.Ytpeghnhaekebdaa
def mayB (n : List UInt8) : Bool := !n.isEmpty && (n != [46]) && (n != [46, 46]) && decide (n.length ≤ 255) && !n.contains 47 && !n.contains 0
end Go.Proofs.Ytpeghnhaekebdaa

/- Directories' entries as lists: right ones, looked for, put in and taken away. No program's function. -/
set_option linter.unusedVariables false
set_option linter.unusedSimpArgs false
namespace Go.Proofs.Ytpeghnhaekebdaa

/-- An entry: its name, its number. -/
abbrev Ent : Type := List UInt8 × Int
abbrev ltB (a b : List UInt8) : Bool := Op.bytesLess a b

theorem lt_irrefl : ∀ a : List UInt8, ltB a a = false
  | [] => by simp [ltB, Op.bytesLess]
  | c :: a => by
    have := lt_irrefl a
    simp only [ltB] at this
    simp [ltB, Op.bytesLess, this, UInt8.lt_irrefl]
theorem lt_trans : ∀ a b c : List UInt8, ltB a b = true → ltB b c = true → ltB a c = true
  | a, b, [], _, h => by cases b <;> simp [ltB, Op.bytesLess] at h
  | a, [], c :: z, h, _ => by cases a <;> simp [ltB, Op.bytesLess] at h
  | [], b :: y, c :: z, _, _ => by simp [ltB, Op.bytesLess]
  | a :: x, b :: y, c :: z, h1, h2 => by
    have ih := lt_trans x y z
    simp only [ltB, Op.bytesLess, Bool.or_eq_true, Bool.and_eq_true, decide_eq_true_eq, beq_iff_eq] at h1 h2 ih ⊢
    rcases h1 with h1 | ⟨rfl, h1⟩
    · rcases h2 with h2 | ⟨rfl, h2⟩
      · exact .inl (UInt8.lt_trans h1 h2)
      · exact .inl h1
    · rcases h2 with h2 | ⟨rfl, h2⟩
      · exact .inl h2
      · exact .inr ⟨rfl, ih h1 h2⟩
theorem lt_tri : ∀ a b : List UInt8, ltB a b = false → ltB b a = false → a = b
  | [], [], _, _ => rfl
  | [], _ :: _, h, _ => by simp [ltB, Op.bytesLess] at h
  | _ :: _, [], _, h => by simp [ltB, Op.bytesLess] at h
  | a :: x, b :: y, h1, h2 => by
    have ih := lt_tri x y
    simp only [ltB, Op.bytesLess, Bool.or_eq_false_iff, Bool.and_eq_false_iff, decide_eq_false_iff_not] at h1 h2 ih
    have e : a = b := by
      rcases Nat.lt_trichotomy a.toNat b.toNat with h | h | h
      · exact absurd (UInt8.lt_iff_toNat_lt.2 h) h1.1
      · exact UInt8.toNat_inj.1 h
      · exact absurd (UInt8.lt_iff_toNat_lt.2 h) h2.1
    subst e
    rw [ih (h1.2.resolve_left (by simp)) (h2.2.resolve_left (by simp))]
theorem lt_asym {a b : List UInt8} (h : ltB a b = true) : ltB b a = false := by
  rw [Bool.eq_false_iff]; intro h2
  have := lt_trans a b a h h2
  rw [lt_irrefl] at this; cases this
theorem lt_ne {a b : List UInt8} (h : ltB a b = true) : a ≠ b := by
  rintro rfl; rw [lt_irrefl] at h; cases h
theorem cmp_lt : ∀ a b : List UInt8, decide (Lib.compareBytes a b < 0) = ltB a b
  | [], [] => by simp [Lib.compareBytes, ltB, Op.bytesLess]
  | [], _ :: _ => by simp [Lib.compareBytes, ltB, Op.bytesLess]
  | _ :: _, [] => by simp [Lib.compareBytes, ltB, Op.bytesLess]
  | a :: x, b :: y => by
    have ih := cmp_lt x y
    by_cases h1 : a < b
    · simp [Lib.compareBytes, ltB, Op.bytesLess, h1]
    · by_cases h2 : b < a
      · have hne : a ≠ b := by rintro rfl; exact UInt8.lt_irrefl _ h2
        simp [Lib.compareBytes, ltB, Op.bytesLess, h1, h2, hne]
      · have e : a = b := by
          rcases Nat.lt_trichotomy a.toNat b.toNat with h | h | h
          · exact absurd (UInt8.lt_iff_toNat_lt.2 h) h1
          · exact UInt8.toNat_inj.1 h
          · exact absurd (UInt8.lt_iff_toNat_lt.2 h) h2
        subst e
        simp only [Lib.compareBytes, if_neg h1, ih]
        simp [ltB, Op.bytesLess, h1]
theorem cmp_eq0 : ∀ a b : List UInt8, (Lib.compareBytes a b == 0) = (a == b)
  | [], [] => by simp [Lib.compareBytes]
  | [], _ :: _ => by simp [Lib.compareBytes]
  | _ :: _, [] => by simp [Lib.compareBytes]
  | a :: x, b :: y => by
    have ih := cmp_eq0 x y
    by_cases h1 : a < b
    · have hne : a ≠ b := by rintro rfl; exact UInt8.lt_irrefl _ h1
      simp [Lib.compareBytes, h1, hne]
    · by_cases h2 : b < a
      · have hne : a ≠ b := by rintro rfl; exact UInt8.lt_irrefl _ h2
        simp [Lib.compareBytes, h1, h2, hne]
      · have e : a = b := by
          rcases Nat.lt_trichotomy a.toNat b.toNat with h | h | h
          · exact absurd (UInt8.lt_iff_toNat_lt.2 h) h1
          · exact UInt8.toNat_inj.1 h
          · exact absurd (UInt8.lt_iff_toNat_lt.2 h) h2
        subst e
        simp only [Lib.compareBytes, if_neg h1, ih]
        simp
theorem cmp_range (a b : List UInt8) : Lib.compareBytes a b = -1 ∨ Lib.compareBytes a b = 0 ∨ Lib.compareBytes a b = 1 := by
  induction a generalizing b with
  | nil => cases b <;> simp [Lib.compareBytes]
  | cons x a ih =>
    cases b with
    | nil => simp [Lib.compareBytes]
    | cons y b =>
      simp only [Lib.compareBytes]
      split
      · simp
      · split
        · simp
        · exact ih b

def goodE (e : Ent) : Bool := mayB e.1 && decide (0 < e.2)
abbrev sortP (l : List Ent) : Prop := l.Pairwise (fun a b => ltB a.1 b.1 = true)
def rightP (l : List Ent) : Prop := (∀ e ∈ l, goodE e = true) ∧ sortP l
def rightB (l : List Ent) : Bool := l.all goodE && decide (sortP l)
theorem rightB_iff (l : List Ent) : rightB l = true ↔ rightP l := by
  simp [rightB, rightP, List.all_eq_true]
theorem right_take {l : List Ent} (h : rightP l) (k : Nat) : rightP (l.take k) :=
  ⟨fun e he => h.1 e (List.mem_of_mem_take he), List.Pairwise.sublist (List.take_sublist k l) h.2⟩
theorem sort_snoc (l : List Ent) (e : Ent) : sortP (l ++ [e]) ↔ sortP l ∧ ∀ a ∈ l, ltB a.1 e.1 = true := by
  simp [sortP, List.pairwise_append]
theorem right_bad {l : List Ent} {k : Nat} (h : k < l.length) (hg : goodE l[k] = false) : rightB l = false := by
  rw [Bool.eq_false_iff, Ne, rightB_iff]
  intro hr
  rw [hr.1 _ (List.getElem_mem h)] at hg; cases hg
theorem right_unsorted {l : List Ent} {k : Nat} (h : k + 1 < l.length) (hg : ltB (l[k]'(by omega)).1 l[k + 1].1 = false) : rightB l = false := by
  rw [Bool.eq_false_iff, Ne, rightB_iff]
  intro hr
  rw [List.pairwise_iff_getElem.1 hr.2 k (k + 1) (by omega) h (by omega)] at hg; cases hg
theorem right_next {l : List Ent} {k : Nat} (h : k < l.length) (hr : rightP (l.take k)) (hg : goodE l[k] = true) (hs : ∀ j (hj : j < l.length), j + 1 = k → ltB l[j].1 l[k].1 = true) : rightP (l.take (k + 1)) := by
  rw [List.take_succ_eq_append_getElem h]
  refine ⟨fun e he => ?_, ?_⟩
  · rcases List.mem_append.1 he with he | he
    · exact hr.1 e he
    · rw [List.mem_singleton] at he; rw [he]; exact hg
  · rw [sort_snoc]
    refine ⟨hr.2, fun a ha => ?_⟩
    obtain ⟨i, hi, rfl⟩ := List.getElem_of_mem ha
    have hik : i < k := by simp at hi; omega
    rw [List.getElem_take]
    rcases Nat.lt_or_ge (i + 1) k with hi1 | hi1
    · have h0 := hs (k - 1) (by omega) (by omega)
      have h1 := List.pairwise_iff_getElem.1 hr.2 i (k - 1) (by simp; omega) (by simp; omega) (by omega)
      rw [List.getElem_take, List.getElem_take] at h1
      exact lt_trans _ _ _ h1 h0
    · exact hs i (by omega) (by omega)
theorem right_end {l : List Ent} (hr : rightP (l.take l.length)) : rightB l = true := by
  rw [List.take_length] at hr; exact (rightB_iff l).2 hr

def numB (l : List Ent) (n : List UInt8) : Int := ((l.find? (fun e => e.1 == n)).map (·.2)).getD 0
def hasB (l : List Ent) (n : List UInt8) : Bool := l.any (fun e => e.1 == n)
theorem find_at {l : List Ent} {n : List UInt8} {k : Nat} (h : k < l.length) (hb : (l.take k).any (fun e => e.1 == n) = false) (hk : l[k].1 = n) : numB l n = l[k].2 ∧ hasB l n = true := by
  have hl : l = l.take k ++ l[k] :: l.drop (k + 1) := by rw [← List.drop_eq_getElem_cons, List.take_append_drop]
  have hf : (l.take k).find? (fun e => e.1 == n) = none := by
    rw [List.find?_eq_none]; intro e he
    have := (List.any_eq_false.1 hb) e he
    exact this
  constructor
  · unfold numB
    have e1 : l.find? (fun e => e.1 == n) = some l[k] := by
      have e2 : (l.take k ++ l[k] :: l.drop (k + 1)).find? (fun e => e.1 == n) = some l[k] := by rw [List.find?_append, hf, List.find?_cons_of_pos (by simp [hk])]; rfl
      rwa [← hl] at e2
    rw [e1]; rfl
  · unfold hasB; rw [List.any_eq_true]; exact ⟨_, List.getElem_mem h, by simp [hk]⟩
theorem find_none {l : List Ent} {n : List UInt8} (hb : l.any (fun e => e.1 == n) = false) : numB l n = 0 ∧ hasB l n = false := by
  refine ⟨?_, hb⟩
  have hf : l.find? (fun e => e.1 == n) = none := by
    rw [List.find?_eq_none]; intro e he
    exact (List.any_eq_false.1 hb) e he
  unfold numB; rw [hf]; rfl
theorem any_next {l : List Ent} {n : List UInt8} {k : Nat} (h : k < l.length) (hb : (l.take k).any (fun e => e.1 == n) = false) (hk : l[k].1 ≠ n) : (l.take (k + 1)).any (fun e => e.1 == n) = false := by
  rw [List.take_succ_eq_append_getElem h, List.any_append, hb]; simp [hk]

def aheadB (l : List Ent) (n : List UInt8) : List Ent := l.filter (fun e => ltB e.1 n)
def behindB (l : List Ent) (n : List UInt8) : List Ent := l.filter (fun e => ltB n e.1)
def withB (l : List Ent) (n : List UInt8) (i : Int) : List Ent := aheadB l n ++ (n, i) :: behindB l n
def withoutB (l : List Ent) (n : List UInt8) : List Ent := aheadB l n ++ behindB l n

/-- Where the search comes to. -/
def SrchP (l : List Ent) (n : List UInt8) (lo : Nat) : Prop :=
  lo ≤ l.length ∧ l.take lo = aheadB l n ∧ (hasB l n = true → ∃ h : lo < l.length, l[lo].1 = n ∧ l.drop (lo + 1) = behindB l n) ∧ (hasB l n = false → l.drop lo = behindB l n)

theorem filter_all {l : List Ent} {p : Ent → Bool} (h : ∀ e ∈ l, p e = true) : l.filter p = l := List.filter_eq_self.2 h
theorem filter_none {l : List Ent} {p : Ent → Bool} (h : ∀ e ∈ l, p e = false) : l.filter p = [] := by
  rw [List.filter_eq_nil_iff]; intro e he; rw [h e he]; simp
theorem srch_end {l : List Ent} {n : List UInt8} {lo : Nat} (hs : sortP l) (hlo : lo ≤ l.length) (h1 : ∀ t (ht : t < l.length), t < lo → ltB l[t].1 n = true) (h2 : ∀ t (ht : t < l.length), lo ≤ t → ltB l[t].1 n = false) :
    SrchP l n lo ∧ hasB l n = (if h : lo < l.length then l[lo].1 == n else false) := by
  have hl : l = l.take lo ++ l.drop lo := (List.take_append_drop _ _).symm
  have ha : ∀ e ∈ l.take lo, ltB e.1 n = true := by
    intro e he
    obtain ⟨t, ht, rfl⟩ := List.getElem_of_mem he
    rw [List.getElem_take]; exact h1 t (by simp at ht; omega) (by simp at ht; omega)
  have hd : ∀ e ∈ l.drop lo, ltB e.1 n = false := by
    intro e he
    obtain ⟨t, ht, rfl⟩ := List.getElem_of_mem he
    rw [List.getElem_drop]; exact h2 (lo + t) (by simp at ht; omega) (by omega)
  have hah : aheadB l n = l.take lo := by
    unfold aheadB; conv => lhs; rw [hl]
    rw [List.filter_append, filter_all ha, filter_none hd, List.append_nil]
  have hbt : (l.take lo).filter (fun e => ltB n e.1) = [] := filter_none fun e he => lt_asym (ha e he)
  have hbe : behindB l n = (l.drop lo).filter (fun e => ltB n e.1) := by
    unfold behindB; conv => lhs; rw [hl]
    rw [List.filter_append, hbt, List.nil_append]
  have hat : (l.take lo).any (fun e => e.1 == n) = false := by
    rw [List.any_eq_false]; intro e he; simpa using lt_ne (ha e he)
  have hhas : hasB l n = (l.drop lo).any (fun e => e.1 == n) := by
    unfold hasB; conv => lhs; rw [hl]
    rw [List.any_append, hat, Bool.false_or]
  by_cases hlt : lo < l.length
  · have hdr : l.drop lo = l[lo] :: l.drop (lo + 1) := List.drop_eq_getElem_cons hlt
    have hsd : sortP (l.drop lo) := List.Pairwise.sublist (List.drop_sublist _ _) hs
    rw [hdr] at hsd
    have hgt := (List.pairwise_cons.1 hsd).1
    have hlo2 := h2 lo hlt (Nat.le_refl _)
    cases hc : ltB n l[lo].1
    · have e : l[lo].1 = n := lt_tri _ _ hlo2 hc
      have hT : hasB l n = true := by rw [hhas, hdr, List.any_cons]; simp [e]
      refine ⟨⟨hlo, hah.symm, fun _ => ⟨hlt, e, ?_⟩, fun h => by rw [hT] at h; cases h⟩, by rw [hT, dif_pos hlt]; simp [e]⟩
      rw [hbe, hdr, List.filter_cons_of_neg (by rw [hc]; simp), filter_all fun x hx => by rw [← e]; exact hgt x hx]
    · have hne : ∀ e ∈ l.drop lo, ltB n e.1 = true := by
        intro e he
        rw [hdr, List.mem_cons] at he
        rcases he with rfl | he
        · exact hc
        · exact lt_trans _ _ _ hc (hgt e he)
      have hF : hasB l n = false := by rw [hhas, List.any_eq_false]; intro e he; simpa using (lt_ne (hne e he)).symm
      refine ⟨⟨hlo, hah.symm, fun h => (by rw [hF] at h; cases h), fun _ => by rw [hbe, filter_all hne]⟩, ?_⟩
      rw [hF, dif_pos hlt]; simpa using (lt_ne hc).symm
  · have hd0 : l.drop lo = [] := List.drop_eq_nil_of_le (by omega)
    have hF : hasB l n = false := by rw [hhas, hd0]; rfl
    refine ⟨⟨hlo, hah.symm, fun h => (by rw [hF] at h; cases h), fun _ => by rw [hbe, hd0]; rfl⟩, ?_⟩
    rw [hF, dif_neg hlt]
theorem sort_upto {l : List Ent} {n : List UInt8} {a b : Nat} (hs : sortP l) (hb : b < l.length) (hab : a ≤ b) (h : ltB l[b].1 n = true) : ltB (l[a]'(by omega)).1 n = true := by
  rcases Nat.lt_or_ge a b with h1 | h1
  · exact lt_trans _ _ _ (List.pairwise_iff_getElem.1 hs a b (by omega) hb h1) h
  · obtain rfl : a = b := by omega
    exact h

theorem find_srch {l : List Ent} {n : List UInt8} {lo : Nat} (h : SrchP l n lo) (hh : hasB l n = true) : ∃ hk : lo < l.length, numB l n = l[lo].2 := by
  obtain ⟨_, ht, hy, _⟩ := h
  obtain ⟨hk, e, _⟩ := hy hh
  refine ⟨hk, (find_at hk ?_ e).1⟩
  rw [ht, List.any_eq_false]
  intro x hx
  simpa using lt_ne (List.mem_filter.1 hx).2

/-- The document's way. -/
theorem without_eq {l : List Ent} (n : List UInt8) (hs : sortP l) : l.filter (fun e => e.1 != n) = withoutB l n := by
  induction l with
  | nil => rfl
  | cons e t ih =>
    obtain ⟨h1, h2⟩ := List.pairwise_cons.1 hs
    have ih := ih h2
    unfold withoutB aheadB behindB at *
    cases hc : ltB e.1 n
    · have ha : t.filter (fun x => ltB x.1 n) = [] := filter_none fun x hx => by
        rw [Bool.eq_false_iff]; intro hx2
        rw [lt_trans _ _ _ (h1 x hx) hx2] at hc; cases hc
      rw [ha] at ih
      rw [List.filter_cons_of_neg (p := fun x : Ent => ltB x.1 n) (by simp [hc]), ha]
      cases hd : ltB n e.1
      · have he : e.1 = n := lt_tri _ _ hc hd
        rw [List.filter_cons_of_neg (p := fun x : Ent => x.1 != n) (by simp [he]), List.filter_cons_of_neg (p := fun x : Ent => ltB n x.1) (by simp [hd]), ih]
      · rw [List.filter_cons_of_pos (p := fun x : Ent => x.1 != n) (by simpa using (lt_ne hd).symm), List.filter_cons_of_pos (p := fun x : Ent => ltB n x.1) hd, ih]; rfl
    · rw [List.filter_cons_of_pos (p := fun x : Ent => x.1 != n) (by simpa using lt_ne hc), List.filter_cons_of_pos (p := fun x : Ent => ltB x.1 n) hc, List.filter_cons_of_neg (p := fun x : Ent => ltB n x.1) (by simp [lt_asym hc]), ih]; rfl
def insB (n : List UInt8) (i : Int) : List Ent → List Ent
  | [] => [(n, i)]
  | e :: r => if ltB n e.1 = true then (n, i) :: e :: r else e :: insB n i r
theorem ins_eq {l : List Ent} (n : List UInt8) (i : Int) (hs : sortP l) : insB n i (withoutB l n) = withB l n i := by
  have hb : insB n i (behindB l n) = (n, i) :: behindB l n := by
    cases h : behindB l n with
    | nil => rfl
    | cons e r =>
      have : e ∈ behindB l n := by rw [h]; simp
      rw [insB, if_pos (List.mem_filter.1 this).2]
  unfold withoutB withB
  have ha : ∀ x ∈ aheadB l n, ltB n x.1 = false := fun x hx => lt_asym (List.mem_filter.1 hx).2
  generalize aheadB l n = A at ha
  induction A with
  | nil => simpa using hb
  | cons x A ih =>
    rw [List.cons_append, insB, if_neg (by rw [ha x (by simp)]; simp), ih fun y hy => ha y (by simp [hy])]; rfl

theorem with_sort {l : List Ent} (n : List UInt8) (i : Int) (hs : sortP l) : sortP (withB l n i) := by
  unfold withB sortP
  rw [List.pairwise_append, List.pairwise_cons]
  refine ⟨List.Pairwise.sublist List.filter_sublist hs, ⟨fun x hx => (List.mem_filter.1 hx).2, List.Pairwise.sublist List.filter_sublist hs⟩, fun a ha b hb => ?_⟩
  have h1 := (List.mem_filter.1 ha).2
  rcases List.mem_cons.1 hb with rfl | hb
  · exact h1
  · exact lt_trans _ _ _ h1 (List.mem_filter.1 hb).2
theorem without_sort {l : List Ent} (n : List UInt8) (hs : sortP l) : sortP (withoutB l n) := by
  unfold withoutB sortP
  rw [List.pairwise_append]
  refine ⟨List.Pairwise.sublist List.filter_sublist hs, List.Pairwise.sublist List.filter_sublist hs, fun a ha b hb => ?_⟩
  exact lt_trans _ _ _ (List.mem_filter.1 ha).2 (List.mem_filter.1 hb).2
theorem with_right {l : List Ent} {n : List UInt8} {i : Int} (hr : rightP l) (hg : goodE (n, i) = true) : rightP (withB l n i) := by
  refine ⟨fun e he => ?_, with_sort n i hr.2⟩
  unfold withB at he
  rcases List.mem_append.1 he with he | he
  · exact hr.1 e (List.mem_filter.1 he).1
  · rcases List.mem_cons.1 he with rfl | he
    · exact hg
    · exact hr.1 e (List.mem_filter.1 he).1
theorem without_right {l : List Ent} (n : List UInt8) (hr : rightP l) : rightP (withoutB l n) := by
  refine ⟨fun e he => ?_, without_sort n hr.2⟩
  unfold withoutB at he
  rcases List.mem_append.1 he with he | he <;> exact hr.1 e (List.mem_filter.1 he).1
theorem find_filter (l : List Ent) (p : Ent → Bool) (n : List UInt8) (hp : ∀ e : Ent, e.1 = n → p e = true) : (l.filter p).find? (fun e => e.1 == n) = l.find? (fun e => e.1 == n) := by
  induction l with
  | nil => rfl
  | cons e t ih =>
    by_cases he : e.1 = n
    · rw [List.filter_cons_of_pos (hp e he), List.find?_cons_of_pos (by simp [he]), List.find?_cons_of_pos (by simp [he])]
    · rw [List.find?_cons_of_neg (by simpa using he)]
      cases hpe : p e
      · rw [List.filter_cons_of_neg (by simp [hpe]), ih]
      · rw [List.filter_cons_of_pos hpe, List.find?_cons_of_neg (by simpa using he), ih]
theorem has_find (l : List Ent) (n : List UInt8) : hasB l n = (l.find? (fun e => e.1 == n)).isSome := by
  unfold hasB; rw [Bool.eq_iff_iff, List.any_eq_true, List.find?_isSome]
theorem without_find {l : List Ent} (m n : List UInt8) (hs : sortP l) : (withoutB l m).find? (fun e => e.1 == n) = if m = n then none else l.find? (fun e => e.1 == n) := by
  rw [← without_eq m hs]
  split
  · rename_i h; subst h
    rw [List.find?_eq_none]; intro e he
    have := (List.mem_filter.1 he).2
    simpa using this
  · rename_i h
    exact find_filter l _ n fun e he => by simpa [he] using fun e => h e.symm
theorem with_find {l : List Ent} (m n : List UInt8) (i : Int) (hs : sortP l) : (withB l m i).find? (fun e => e.1 == n) = if m = n then some (m, i) else l.find? (fun e => e.1 == n) := by
  have ha : ∀ e ∈ aheadB l m, e.1 ≠ m := fun e he => lt_ne (List.mem_filter.1 he).2
  have key : (withB l m i).find? (fun e => e.1 == n) = if m = n then some (m, i) else (withoutB l m).find? (fun e => e.1 == n) := by
    unfold withB withoutB
    rw [List.find?_append, List.find?_append]
    split
    · rename_i h; subst h
      rw [List.find?_eq_none.2 fun e he => by simpa using ha e he, List.find?_cons_of_pos (by simp)]; rfl
    · rename_i h
      rw [List.find?_cons_of_neg (by simpa using h)]
  rw [key, without_find m n hs]
  split
  · rfl
  · rfl
theorem with_num {l : List Ent} (m n : List UInt8) (i : Int) (hs : sortP l) : numB (withB l m i) n = if m = n then i else numB l n := by
  unfold numB; rw [with_find m n i hs]; split <;> rfl
theorem with_has {l : List Ent} (m n : List UInt8) (i : Int) (hs : sortP l) : hasB (withB l m i) n = if m = n then true else hasB l n := by
  rw [has_find, with_find m n i hs]; split
  · rfl
  · rw [has_find]
theorem without_num {l : List Ent} (m n : List UInt8) (hs : sortP l) : numB (withoutB l m) n = if m = n then 0 else numB l n := by
  unfold numB; rw [without_find m n hs]; split <;> rfl
theorem without_has {l : List Ent} (m n : List UInt8) (hs : sortP l) : hasB (withoutB l m) n = if m = n then false else hasB l n := by
  rw [has_find, without_find m n hs]; split
  · rfl
  · rw [has_find]
theorem parts_len (l : List Ent) (n : List UInt8) : (aheadB l n).length + (behindB l n).length ≤ l.length := by
  unfold aheadB behindB
  induction l with
  | nil => simp
  | cons e t ih =>
    cases h : ltB e.1 n
    · rw [List.filter_cons_of_neg (p := fun x : Ent => ltB x.1 n) (by simp [h])]
      have := List.length_filter_le (fun x : Ent => ltB n x.1) [e]
      simp only [List.filter_cons] at *
      split <;> simp at * <;> omega
    · rw [List.filter_cons_of_pos (p := fun x : Ent => ltB x.1 n) h, List.filter_cons_of_neg (p := fun x : Ent => ltB n x.1) (by simp [lt_asym h])]
      simp; omega
theorem without_len (l : List Ent) (n : List UInt8) : (withoutB l n).length ≤ l.length := by
  have := parts_len l n; unfold withoutB; rw [List.length_append]; omega
theorem with_len (l : List Ent) (n : List UInt8) (i : Int) : (withB l n i).length ≤ l.length + 1 := by
  have := parts_len l n; unfold withB; rw [List.length_append, List.length_cons]; omega
def shortP (b : Nat) (l : List Ent) : Prop := ∀ e ∈ l, e.1.length ≤ b
theorem without_short {l : List Ent} {b : Nat} (n : List UInt8) (h : shortP b l) : shortP b (withoutB l n) := by
  intro e he
  unfold withoutB at he
  rcases List.mem_append.1 he with he | he <;> exact h e (List.mem_filter.1 he).1
theorem with_short {l : List Ent} {b : Nat} {n : List UInt8} (i : Int) (h : shortP b l) (hn : n.length ≤ b) : shortP b (withB l n i) := by
  intro e he
  unfold withB at he
  rcases List.mem_append.1 he with he | he
  · exact h e (List.mem_filter.1 he).1
  · rcases List.mem_cons.1 he with rfl | he
    · exact hn
    · exact h e (List.mem_filter.1 he).1
theorem may_len {n : List UInt8} (h : mayB n = true) : n.length ≤ 255 := by
  simp [mayB] at h; exact h.1.1.2
theorem right_short {l : List Ent} (h : rightP l) : shortP 255 l := by
  intro e he
  have := h.1 e he
  rw [goodE, Bool.and_eq_true] at this
  exact may_len this.1

def fewE (l : List Ent) : Bool := (l.take 100).all (fun s => decide (s.1.length ≤ 300)) && decide (l.length ≤ 50)
theorem fewE_no {l : List Ent} {k : Nat} (h : k < l.length) (h1 : k < 100) (h2 : 300 < l[k].1.length) : fewE l = false := by
  rw [Bool.eq_false_iff]
  intro hb
  simp only [fewE, Bool.and_eq_true, List.all_eq_true] at hb
  have hk : k < (l.take 100).length := by simp; omega
  have := hb.1 (l.take 100)[k] (List.getElem_mem hk)
  simp at this
  omega
theorem fewE_yes {l : List Ent} {k : Nat} (h : ∀ j (hj : j < l.length), j < k → l[j].1.length ≤ 300) (h2 : ¬ (k < l.length ∧ k < 100)) : fewE l = decide (l.length ≤ 50) := by
  unfold fewE
  have : (l.take 100).all (fun s => decide (s.1.length ≤ 300)) = true := by
    rw [List.all_eq_true]
    intro s hs
    obtain ⟨j, hj, rfl⟩ := List.getElem_of_mem hs
    have hj2 : j < l.length ∧ j < 100 := by simp at hj; omega
    have := h j hj2.1 (by omega)
    simpa using this
  rw [this]; simp
theorem fewE_small {l : List Ent} (h : fewE l = true) : l.length ≤ 50 ∧ shortP 300 l := by
  simp only [fewE, Bool.and_eq_true, List.all_eq_true, decide_eq_true_eq] at h
  refine ⟨h.2, fun x hx => ?_⟩
  rw [List.take_of_length_le (by omega)] at h
  exact h.1 x hx
end Go.Proofs.Ytpeghnhaekebdaa

/- Tables' inodes as lists: rising ones, looked for, put in and dropped. No program's function. -/
set_option linter.unusedVariables false
set_option linter.unusedSimpArgs false
namespace Go.Proofs.Ytpeghnhaekebdaa

/-- An inode: its fields, its entries' slice as it lies in its cell, and what that slice reads as. -/
structure Nd where
  ino : Int
  kind : Int
  links : Int
  data : List UInt8
  parent : Int
  ev : Value
  ents : List Ent

abbrev Key : Type := Int × Int × Int × List UInt8 × Int × List Ent
instance keyDec1 : DecidableEq (List Ent) := inferInstance
instance keyDec2 : DecidableEq (Int × List Ent) := instDecidableEqProd
instance keyDec3 : DecidableEq (List UInt8 × Int × List Ent) := instDecidableEqProd
instance keyDec4 : DecidableEq (Int × List UInt8 × Int × List Ent) := instDecidableEqProd
instance keyDec5 : DecidableEq (Int × Int × List UInt8 × Int × List Ent) := instDecidableEqProd
instance keyDec : DecidableEq Key := instDecidableEqProd
def Nd.key (x : Nd) : Key := (x.ino, x.kind, x.links, x.data, x.parent, x.ents)
def oneB (a b : Nd) : Bool := decide (a.key = b.key)
def onesB (a b : List Nd) : Bool := decide (a.map Nd.key = b.map Nd.key)
theorem oneB_refl (a : Nd) : oneB a a = true := decide_eq_true rfl
theorem onesB_refl (a : List Nd) : onesB a a = true := decide_eq_true rfl
theorem oneB_iff (a b : Nd) : oneB a b = true ↔ a.key = b.key := by simp [oneB]
theorem key_ext (a b : Nd) (h1 : a.ino = b.ino) (h2 : a.kind = b.kind) (h3 : a.links = b.links) (h4 : a.data = b.data) (h5 : a.parent = b.parent) (h6 : a.ents = b.ents) : oneB a b = true := by
  rw [oneB_iff]; simp [Nd.key, *]
theorem oneB_no1 {a b : Nd} (h : (a.ino == b.ino) = false) : oneB a b = false := by
  rw [Bool.eq_false_iff]; intro e; rw [oneB_iff] at e; simp [Nd.key] at e; simp at h; exact h e.1
theorem oneB_no2 {a b : Nd} (h : (a.kind == b.kind) = false) : oneB a b = false := by
  rw [Bool.eq_false_iff]; intro e; rw [oneB_iff] at e; simp [Nd.key] at e; simp at h; exact h e.2.1
theorem oneB_no3 {a b : Nd} (h : (a.links == b.links) = false) : oneB a b = false := by
  rw [Bool.eq_false_iff]; intro e; rw [oneB_iff] at e; simp [Nd.key] at e; simp at h; exact h e.2.2.1
theorem oneB_no4 {a b : Nd} (h : (a.data == b.data) = false) : oneB a b = false := by
  rw [Bool.eq_false_iff]; intro e; rw [oneB_iff] at e; simp [Nd.key] at e; simp at h; exact h e.2.2.2.1
theorem oneB_no5 {a b : Nd} (h : (a.parent == b.parent) = false) : oneB a b = false := by
  rw [Bool.eq_false_iff]; intro e; rw [oneB_iff] at e; simp [Nd.key] at e; simp at h; exact h e.2.2.2.2.1
theorem oneB_ents {a b : Nd} (h1 : (a.ino == b.ino) = true) (h2 : (a.kind == b.kind) = true) (h3 : (a.links == b.links) = true) (h4 : (a.data == b.data) = true) (h5 : (a.parent == b.parent) = true) : oneB a b = decide (a.ents = b.ents) := by
  simp only [beq_iff_eq] at h1 h2 h3 h4 h5
  simp [oneB, Nd.key, *]
theorem onesB_len {a b : List Nd} (h : a.length ≠ b.length) : onesB a b = false := by
  rw [Bool.eq_false_iff]; intro e
  simp only [onesB, decide_eq_true_eq] at e
  have := congrArg List.length e
  simp at this; exact h this
theorem onesB_no {a b : List Nd} {k : Nat} (ha : k < a.length) (hb : k < b.length) (h : oneB a[k] b[k] = false) : onesB a b = false := by
  rw [Bool.eq_false_iff]; intro e
  simp only [onesB, decide_eq_true_eq] at e
  have h1 : (a.map Nd.key)[k]? = (b.map Nd.key)[k]? := by rw [e]
  simp [ha, hb] at h1
  simp [oneB, h1] at h
theorem onesB_next {a b : List Nd} {k : Nat} (ha : k < a.length) (hb : k < b.length) (ht : (a.take k).map Nd.key = (b.take k).map Nd.key) (h : oneB a[k] b[k] = true) : (a.take (k + 1)).map Nd.key = (b.take (k + 1)).map Nd.key := by
  rw [List.take_succ_eq_append_getElem ha, List.take_succ_eq_append_getElem hb, List.map_append, List.map_append, ht]
  rw [oneB_iff] at h
  simp [h]
theorem onesB_end {a b : List Nd} (hl : a.length = b.length) (ht : (a.take a.length).map Nd.key = (b.take a.length).map Nd.key) : onesB a b = true := by
  rw [List.take_length, hl, List.take_length] at ht
  exact decide_eq_true ht

abbrev riseP (l : List Nd) : Prop := l.Pairwise (fun a b => a.ino < b.ino)
def riseN (l : List Nd) : Bool := decide (riseP l)
theorem riseN_iff (l : List Nd) : riseN l = true ↔ riseP l := by simp [riseN]
theorem rise_next {l : List Nd} {k : Nat} (h : k < l.length) (hr : riseP (l.take k)) (hs : ∀ j (hj : j < l.length), j + 1 = k → l[j].ino < l[k].ino) : riseP (l.take (k + 1)) := by
  rw [List.take_succ_eq_append_getElem h]
  refine List.pairwise_append.2 ⟨hr, List.pairwise_singleton _ _, fun a ha b hb => ?_⟩
  obtain rfl := List.mem_singleton.1 hb
  obtain ⟨i, hi, rfl⟩ := List.getElem_of_mem ha
  have hik : i < k := by simp at hi; omega
  rw [List.getElem_take]
  rcases Nat.lt_or_ge (i + 1) k with hi1 | hi1
  · have h0 := hs (k - 1) (by omega) (by omega)
    have h1 := List.pairwise_iff_getElem.1 hr i (k - 1) (by simp; omega) (by simp; omega) (by omega)
    rw [List.getElem_take, List.getElem_take] at h1
    omega
  · exact hs i (by omega) (by omega)
theorem rise_no {l : List Nd} {k : Nat} (h : k + 1 < l.length) (hg : ¬ (l[k]'(by omega)).ino < l[k + 1].ino) : riseN l = false := by
  rw [Bool.eq_false_iff, Ne, riseN_iff]
  intro hr
  exact hg (List.pairwise_iff_getElem.1 hr k (k + 1) (by omega) h (by omega))
theorem rise_end {l : List Nd} (h : riseP (l.take l.length)) : riseN l = true := by
  rw [List.take_length] at h; exact (riseN_iff l).2 h

def aheadN (l : List Nd) (i : Int) : List Nd := l.filter (fun e => decide (e.ino < i))
def behindN (l : List Nd) (i : Int) : List Nd := l.filter (fun e => decide (i < e.ino))
def setN (l : List Nd) (x : Nd) : List Nd := aheadN l x.ino ++ x :: behindN l x.ino
def dropN (l : List Nd) (i : Int) : List Nd := aheadN l i ++ behindN l i
def hasN (l : List Nd) (i : Int) : Bool := l.any (fun e => e.ino == i)
def zeroN : Nd := ⟨0, 0, 0, [], 0, .slice none 0 0, []⟩
def getN (l : List Nd) (i : Int) : Nd := (l.find? (fun e => e.ino == i)).getD zeroN

theorem ahead_le (l : List Nd) (i : Int) : (aheadN l i).length ≤ l.length := List.length_filter_le _ _
theorem dropN_len (l : List Nd) (i : Int) : (dropN l i).length ≤ l.length := by
  unfold dropN aheadN behindN
  induction l with
  | nil => simp
  | cons e r ih =>
    simp only [List.filter_cons, List.length_append] at ih ⊢
    split <;> split <;> simp at * <;> omega
theorem setN_len (l : List Nd) (x : Nd) : (setN l x).length ≤ l.length + 1 := by
  have := dropN_len l x.ino
  simp [dropN, setN] at this ⊢; omega
theorem mem_setN {l : List Nd} {x e : Nd} (h : e ∈ setN l x) : e = x ∨ e ∈ l := by
  simp only [setN, aheadN, behindN, List.mem_append, List.mem_cons, List.mem_filter] at h
  rcases h with h | h | h
  · exact .inr h.1
  · exact .inl h
  · exact .inr h.1
theorem mem_dropN {l : List Nd} {i : Int} {e : Nd} (h : e ∈ dropN l i) : e ∈ l := by
  simp only [dropN, aheadN, behindN, List.mem_append, List.mem_filter] at h
  rcases h with h | h <;> exact h.1

/-- Where the search comes to. -/
def SrchN (l : List Nd) (i : Int) (lo : Nat) : Prop :=
  lo ≤ l.length ∧ l.take lo = aheadN l i ∧ (hasN l i = true → ∃ h : lo < l.length, l[lo].ino = i ∧ l.drop (lo + 1) = behindN l i) ∧ (hasN l i = false → l.drop lo = behindN l i)

theorem filtN_all {l : List Nd} {p : Nd → Bool} (h : ∀ e ∈ l, p e = true) : l.filter p = l := List.filter_eq_self.2 h
theorem filtN_none {l : List Nd} {p : Nd → Bool} (h : ∀ e ∈ l, p e = false) : l.filter p = [] := by
  rw [List.filter_eq_nil_iff]; intro e he; rw [h e he]; simp
theorem srchN_end {l : List Nd} {n : Int} {lo : Nat} (hs : riseP l) (hlo : lo ≤ l.length) (h1 : ∀ t (ht : t < l.length), t < lo → l[t].ino < n) (h2 : ∀ t (ht : t < l.length), lo ≤ t → n ≤ l[t].ino) :
    SrchN l n lo ∧ hasN l n = (if h : lo < l.length then l[lo].ino == n else false) := by
  have hl : l = l.take lo ++ l.drop lo := (List.take_append_drop _ _).symm
  have ha : ∀ e ∈ l.take lo, e.ino < n := by
    intro e he
    obtain ⟨t, ht, rfl⟩ := List.getElem_of_mem he
    rw [List.getElem_take]; exact h1 t (by simp at ht; omega) (by simp at ht; omega)
  have hd : ∀ e ∈ l.drop lo, n ≤ e.ino := by
    intro e he
    obtain ⟨t, ht, rfl⟩ := List.getElem_of_mem he
    rw [List.getElem_drop]; exact h2 (lo + t) (by simp at ht; omega) (by omega)
  have hah : aheadN l n = l.take lo := by
    unfold aheadN; conv => lhs; rw [hl]
    rw [List.filter_append, filtN_all fun e he => decide_eq_true (ha e he), filtN_none fun e he => decide_eq_false (by have := hd e he; omega), List.append_nil]
  have hbt : (l.take lo).filter (fun e => decide (n < e.ino)) = [] := filtN_none fun e he => decide_eq_false (by have := ha e he; omega)
  have hbe : behindN l n = (l.drop lo).filter (fun e => decide (n < e.ino)) := by
    unfold behindN; conv => lhs; rw [hl]
    rw [List.filter_append, hbt, List.nil_append]
  have hat : (l.take lo).any (fun e => e.ino == n) = false := by
    rw [List.any_eq_false]; intro e he; have := ha e he; simp; omega
  have hhas : hasN l n = (l.drop lo).any (fun e => e.ino == n) := by
    unfold hasN; conv => lhs; rw [hl]
    rw [List.any_append, hat, Bool.false_or]
  by_cases hlt : lo < l.length
  · have hdr : l.drop lo = l[lo] :: l.drop (lo + 1) := List.drop_eq_getElem_cons hlt
    have hsd : riseP (l.drop lo) := List.Pairwise.sublist (List.drop_sublist _ _) hs
    rw [hdr] at hsd
    have hgt := (List.pairwise_cons.1 hsd).1
    have hlo2 := h2 lo hlt (Nat.le_refl _)
    by_cases e : l[lo].ino = n
    · have hT : hasN l n = true := by rw [hhas, hdr, List.any_cons]; simp [e]
      refine ⟨⟨hlo, hah.symm, fun _ => ⟨hlt, e, ?_⟩, fun h => by rw [hT] at h; cases h⟩, by rw [hT, dif_pos hlt]; simp [e]⟩
      rw [hbe, hdr, List.filter_cons_of_neg (by simp; omega), filtN_all fun x hx => decide_eq_true (by have := hgt x hx; omega)]
    · have hne : ∀ e ∈ l.drop lo, n < e.ino := by
        intro e he
        rw [hdr, List.mem_cons] at he
        rcases he with rfl | he
        · omega
        · have := hgt e he; omega
      have hF : hasN l n = false := by rw [hhas, List.any_eq_false]; intro e he; have := hne e he; simp; omega
      refine ⟨⟨hlo, hah.symm, fun h => (by rw [hF] at h; cases h), fun _ => by rw [hbe, filtN_all fun e he => decide_eq_true (hne e he)]⟩, ?_⟩
      rw [hF, dif_pos hlt]; simp [e]
  · have hd0 : l.drop lo = [] := List.drop_eq_nil_of_le (by omega)
    have hF : hasN l n = false := by rw [hhas, hd0]; rfl
    refine ⟨⟨hlo, hah.symm, fun h => (by rw [hF] at h; cases h), fun _ => by rw [hbe, hd0]; rfl⟩, ?_⟩
    rw [hF, dif_neg hlt]
theorem rise_upto {l : List Nd} {a b : Nat} (hs : riseP l) (hb : b < l.length) (hab : a ≤ b) : (l[a]'(by omega)).ino ≤ l[b].ino := by
  rcases Nat.lt_or_ge a b with h1 | h1
  · exact Int.le_of_lt (List.pairwise_iff_getElem.1 hs a b (by omega) hb h1)
  · obtain rfl : a = b := by omega
    exact Int.le_refl _

theorem getN_at {l : List Nd} {n : Int} {k : Nat} (h : k < l.length) (hb : (l.take k).any (fun e => e.ino == n) = false) (hk : l[k].ino = n) : getN l n = l[k] ∧ hasN l n = true := by
  have hl : l = l.take k ++ l[k] :: l.drop (k + 1) := by rw [← List.drop_eq_getElem_cons, List.take_append_drop]
  have hf : (l.take k).find? (fun e => e.ino == n) = none := by
    rw [List.find?_eq_none]; intro e he
    exact (List.any_eq_false.1 hb) e he
  constructor
  · unfold getN
    have e1 : l.find? (fun e => e.ino == n) = some l[k] := by
      have e2 : (l.take k ++ l[k] :: l.drop (k + 1)).find? (fun e => e.ino == n) = some l[k] := by rw [List.find?_append, hf, List.find?_cons_of_pos (by simp [hk])]; rfl
      rwa [← hl] at e2
    rw [e1]; rfl
  · unfold hasN; rw [List.any_eq_true]; exact ⟨_, List.getElem_mem h, by simp [hk]⟩
theorem getN_none {l : List Nd} {n : Int} (hb : hasN l n = false) : getN l n = zeroN := by
  have hf : l.find? (fun e => e.ino == n) = none := by
    rw [List.find?_eq_none]; intro e he
    exact (List.any_eq_false.1 hb) e he
  unfold getN; rw [hf]; rfl
theorem anyN_next {l : List Nd} {n : Int} {k : Nat} (h : k < l.length) (hb : (l.take k).any (fun e => e.ino == n) = false) (hk : (l[k].ino == n) = false) : (l.take (k + 1)).any (fun e => e.ino == n) = false := by
  rw [List.take_succ_eq_append_getElem h, List.any_append, hb]; simp [hk]
theorem getN_srch {l : List Nd} {n : Int} {lo : Nat} (h : SrchN l n lo) (hh : hasN l n = true) : ∃ hk : lo < l.length, getN l n = l[lo] := by
  obtain ⟨_, ht, hy, _⟩ := h
  obtain ⟨hk, e, _⟩ := hy hh
  refine ⟨hk, (getN_at hk ?_ e).1⟩
  rw [ht, List.any_eq_false]
  intro x hx
  have := of_decide_eq_true (List.mem_filter.1 hx).2
  simp; omega

/-- The document's ways. -/
theorem dropN_eq (l : List Nd) (n : Int) (hs : riseP l) : l.filter (fun e => e.ino != n) = dropN l n := by
  induction l with
  | nil => rfl
  | cons e t ih =>
    obtain ⟨h1, h2⟩ := List.pairwise_cons.1 hs
    have ih := ih h2
    unfold dropN aheadN behindN at *
    by_cases hc : e.ino < n
    · rw [List.filter_cons_of_pos (p := fun x : Nd => x.ino != n) (by simp; omega), List.filter_cons_of_pos (p := fun x : Nd => decide (x.ino < n)) (by simpa using hc), List.filter_cons_of_neg (p := fun x : Nd => decide (n < x.ino)) (by simp; omega), ih]; rfl
    · have ha : t.filter (fun x => decide (x.ino < n)) = [] := filtN_none fun x hx => decide_eq_false (by have := h1 x hx; omega)
      rw [ha] at ih
      rw [List.filter_cons_of_neg (p := fun x : Nd => decide (x.ino < n)) (by simpa using hc), ha]
      by_cases he : e.ino = n
      · rw [List.filter_cons_of_neg (p := fun x : Nd => x.ino != n) (by simp [he]), List.filter_cons_of_neg (p := fun x : Nd => decide (n < x.ino)) (by simp [he]), ih]
      · rw [List.filter_cons_of_pos (p := fun x : Nd => x.ino != n) (by simpa using he), List.filter_cons_of_pos (p := fun x : Nd => decide (n < x.ino)) (by simp; omega), ih]; rfl
theorem drop_rise {l : List Nd} (n : Int) (hs : riseP l) : riseP (dropN l n) := by
  rw [← dropN_eq l n hs]; exact hs.filter _
theorem set_rise {l : List Nd} (x : Nd) (hs : riseP l) : riseP (setN l x) := by
  unfold setN aheadN behindN
  refine List.pairwise_append.2 ⟨hs.filter _, List.pairwise_cons.2 ⟨fun b hb => of_decide_eq_true (List.mem_filter.1 hb).2, hs.filter _⟩, fun a ha b hb => ?_⟩
  have h1 := of_decide_eq_true (List.mem_filter.1 ha).2
  rcases List.mem_cons.1 hb with rfl | hb
  · exact h1
  · have h2 := of_decide_eq_true (List.mem_filter.1 hb).2; omega

/-- The rounds of the document's Set, over what is left of the table: what has come of the first k, and whether x was put. -/
def insN (x : Nd) : List Nd → List Nd × Bool
  | [] => ([], false)
  | e :: r => if x.ino < e.ino then (x :: e :: r, true) else (e :: (insN x r).1, (insN x r).2)
theorem insN_snoc (x : Nd) (l : List Nd) (e : Nd) : insN x (l ++ [e]) = if (insN x l).2 = true then ((insN x l).1 ++ [e], true) else if x.ino < e.ino then ((insN x l).1 ++ [x, e], true) else ((insN x l).1 ++ [e], false) := by
  induction l with
  | nil => simp [insN]
  | cons a r ih =>
    simp only [List.cons_append, insN]
    by_cases h : x.ino < a.ino
    · simp [h]
    · simp only [h, if_false, ih]
      split
      · rfl
      · split <;> rfl
theorem insN_next (x : Nd) {l : List Nd} {k : Nat} (h : k < l.length) : insN x (l.take (k + 1)) = if (insN x (l.take k)).2 = true then ((insN x (l.take k)).1 ++ [l[k]], true) else if x.ino < l[k].ino then ((insN x (l.take k)).1 ++ [x, l[k]], true) else ((insN x (l.take k)).1 ++ [l[k]], false) := by
  rw [List.take_succ_eq_append_getElem h, insN_snoc]
theorem ins_len (x : Nd) (l : List Nd) : (insN x l).1.length ≤ l.length + 1 := by
  induction l with
  | nil => simp [insN]
  | cons a r ih =>
    simp only [insN]
    split
    · simp
    · simp; exact ih
theorem ins_mem (x : Nd) (l : List Nd) (e : Nd) (h : e ∈ (insN x l).1) : e = x ∨ e ∈ l := by
  induction l with
  | nil => simp [insN] at h
  | cons a r ih =>
    simp only [insN] at h
    split at h
    · rcases List.mem_cons.1 h with h | h
      · exact .inl h
      · exact .inr h
    · rcases List.mem_cons.1 h with h | h
      · exact .inr (by simp [h])
      · rcases ih h with h | h
        · exact .inl h
        · exact .inr (by simp [h])
def finN (x : Nd) (l : List Nd) : List Nd := if (insN x l).2 = true then (insN x l).1 else (insN x l).1 ++ [x]
theorem fin_cons_lt {x e : Nd} {r : List Nd} (h : x.ino < e.ino) : finN x (e :: r) = x :: e :: r := by simp [finN, insN, h]
theorem fin_cons_ge {x e : Nd} {r : List Nd} (h : ¬ x.ino < e.ino) : finN x (e :: r) = e :: finN x r := by
  simp only [finN, insN, h, if_false]
  split <;> rfl
theorem fin_eq (x : Nd) (l : List Nd) : finN x (dropN l x.ino) = setN l x := by
  unfold dropN setN
  have hb : finN x (behindN l x.ino) = x :: behindN l x.ino := by
    cases h : behindN l x.ino with
    | nil => rfl
    | cons e r =>
      have : e ∈ behindN l x.ino := by rw [h]; simp
      exact fin_cons_lt (of_decide_eq_true (List.mem_filter.1 this).2)
  have ha : ∀ e ∈ aheadN l x.ino, e.ino < x.ino := fun e he => of_decide_eq_true (List.mem_filter.1 he).2
  revert ha
  induction aheadN l x.ino with
  | nil => intro _; exact hb
  | cons e r ih =>
    intro ha
    have := ha e (by simp)
    rw [List.cons_append, fin_cons_ge (by omega), ih fun e he => ha e (by simp [he])]; rfl

/-- What the rounds of TableHolds keep. -/
def HoldsInv (F kept : List Nd) : Prop := riseP F ∧ F.Perm kept
theorem holds_start : HoldsInv [] [] := ⟨List.Pairwise.nil, List.Perm.refl _⟩
theorem set_perm {l : List Nd} (x : Nd) (hs : riseP l) : (setN l x).Perm (l.filter (fun e => e.ino != x.ino) ++ [x]) := by
  rw [dropN_eq l x.ino hs]
  unfold setN dropN
  rw [List.append_assoc]
  exact (List.Perm.append_left _ (List.perm_append_comm (l₁ := [x]) (l₂ := behindN l x.ino)))
theorem holds_set {F kept : List Nd} (h : HoldsInv F kept) (x : Nd) : HoldsInv (setN F x) (kept.filter (fun e => e.ino != x.ino) ++ [x]) :=
  ⟨set_rise x h.1, (set_perm x h.1).trans ((h.2.filter _).append_right _)⟩
theorem holds_drop {F kept : List Nd} (h : HoldsInv F kept) (x : Nd) : HoldsInv (dropN (setN F x) x.ino) (kept.filter (fun e => e.ino != x.ino)) := by
  have h1 := holds_set h x
  refine ⟨drop_rise _ h1.1, ?_⟩
  rw [← dropN_eq _ _ h1.1]
  have := h1.2.filter (fun e => e.ino != x.ino)
  rw [List.filter_append, List.filter_filter] at this
  simpa using this
theorem holds_get {F kept : List Nd} (h : HoldsInv F kept) {k : Nat} (hk : k < kept.length) : hasN F kept[k].ino = true ∧ getN F kept[k].ino = kept[k] := by
  have hm : kept[k] ∈ F := h.2.mem_iff.2 (List.getElem_mem hk)
  obtain ⟨i, hi, e⟩ := List.getElem_of_mem hm
  have hno : (F.take i).any (fun e => e.ino == kept[k].ino) = false := by
    rw [List.any_eq_false]; intro y hy
    obtain ⟨j, hj, rfl⟩ := List.getElem_of_mem hy
    have hji : j < i := by simp at hj; omega
    have := List.pairwise_iff_getElem.1 h.1 j i (by omega) hi hji
    rw [List.getElem_take, ← e]; simp; omega
  have := getN_at hi hno (by rw [e])
  exact ⟨this.2, this.1.trans e⟩
theorem holds_len {F kept : List Nd} (h : HoldsInv F kept) : F.length = kept.length := h.2.length_eq
theorem filtN_next {l : List Nd} {n : Int} {k : Nat} (h : k < l.length) : (l.take (k + 1)).filter (fun e => e.ino != n) = (l.take k).filter (fun e => e.ino != n) ++ (if l[k].ino != n then [l[k]] else []) := by
  rw [List.take_succ_eq_append_getElem h, List.filter_append]; congr 1; simp only [List.filter_cons, List.filter_nil]
def fewX (x : Nd) : Bool := decide (x.data.length ≤ 5000) && decide (x.ents.length ≤ 40) && x.ents.all (fun e => decide (e.1.length ≤ 300))
def fewN (l : List Nd) : Bool := decide (l.length ≤ 40) && l.all fewX
theorem fewN_no {l : List Nd} {k : Nat} (h : k < l.length) (hx : fewX l[k] = false) : fewN l = false := by
  unfold fewN
  rw [show l.all fewX = false from by rw [List.all_eq_false]; exact ⟨_, List.getElem_mem h, by rw [hx]; simp⟩, Bool.and_false]
theorem fewN_end {l : List Nd} {k : Nat} (h : ∀ j (hj : j < l.length), j < k → fewX l[j] = true) (hk : ¬ (k < l.length ∧ k < 100)) : fewN l = decide (l.length ≤ 40) := by
  unfold fewN
  by_cases h40 : l.length ≤ 40
  · rw [show l.all fewX = true from by rw [List.all_eq_true]; intro x hx; obtain ⟨i, hi, rfl⟩ := List.getElem_of_mem hx; exact h i hi (by omega), Bool.and_true]
  · rw [decide_eq_false h40, Bool.false_and]
theorem fewX_no1 {x : Nd} (h : ¬ x.data.length ≤ 5000) : fewX x = false := by unfold fewX; rw [decide_eq_false h]; rfl
theorem fewX_no2 {x : Nd} (h : ¬ x.ents.length ≤ 40) : fewX x = false := by unfold fewX; rw [decide_eq_false h, Bool.and_false]; rfl
theorem fewX_no3 {x : Nd} {m : Nat} (hm : m < x.ents.length) (h : ¬ x.ents[m].1.length ≤ 300) : fewX x = false := by
  unfold fewX
  rw [show x.ents.all (fun e => decide (e.1.length ≤ 300)) = false from by rw [List.all_eq_false]; exact ⟨_, List.getElem_mem hm, by simpa using h⟩, Bool.and_false]
theorem fewX_yes {x : Nd} (h1 : x.data.length ≤ 5000) (h2 : x.ents.length ≤ 40) (h3 : ∀ i (hi : i < x.ents.length), x.ents[i].1.length ≤ 300) : fewX x = true := by
  unfold fewX
  rw [decide_eq_true h1, decide_eq_true h2, show x.ents.all (fun e => decide (e.1.length ≤ 300)) = true from by
    rw [List.all_eq_true]; intro e he; obtain ⟨i, hi, rfl⟩ := List.getElem_of_mem he; exact decide_eq_true (h3 i hi)]; rfl
theorem fewN_small {l : List Nd} (h : fewN l = true) : l.length ≤ 40 ∧ ∀ x ∈ l, x.data.length ≤ 5000 := by
  unfold fewN at h
  rw [Bool.and_eq_true, decide_eq_true_eq, List.all_eq_true] at h
  refine ⟨h.1, fun x hx => ?_⟩
  have := h.2 x hx
  unfold fewX at this
  simp only [Bool.and_eq_true, decide_eq_true_eq] at this
  exact this.1.1
end Go.Proofs.Ytpeghnhaekebdaa

/- What a table's inodes cost, as lists. No program's function. -/
set_option linter.unusedVariables false
set_option linter.unusedSimpArgs false
namespace Go.Proofs.Ytpeghnhaekebdaa

def costN (x : Nd) : Nat := if x.kind = 1 then x.data.length else 0
def bytesN : List Nd → Nat
  | [] => 0
  | x :: l => costN x + bytesN l
theorem bytesN_append (a b : List Nd) : bytesN (a ++ b) = bytesN a + bytesN b := by
  induction a with
  | nil => simp [bytesN]
  | cons x l ih => simp [bytesN, ih]; omega
theorem bytesN_next {l : List Nd} {k : Nat} (h : k < l.length) : bytesN (l.take (k + 1)) = bytesN (l.take k) + costN l[k] := by
  rw [List.take_succ_eq_append_getElem h, bytesN_append]; simp [bytesN]
theorem bytesN_take (l : List Nd) (k : Nat) : bytesN (l.take k) ≤ bytesN l := by
  have := bytesN_append (l.take k) (l.drop k)
  rw [List.take_append_drop] at this; omega
theorem bytesN_end (l : List Nd) : bytesN (l.take l.length) = bytesN l := by rw [List.take_length]
theorem costN_le (x : Nd) : costN x ≤ x.data.length := by unfold costN; split <;> omega
theorem costN_no {x : Nd} (h : ¬ x.kind = 1) : costN x = 0 := by simp [costN, h]
theorem costN_yes {x : Nd} (h : x.kind = 1) : costN x = x.data.length := by simp [costN, h]
theorem bytesN_few {l : List Nd} {m : Nat} (h : ∀ x ∈ l, x.data.length ≤ m) : bytesN l ≤ l.length * m := by
  induction l with
  | nil => simp [bytesN]
  | cons x l ih =>
    have h1 := ih fun y hy => h y (by simp [hy])
    have h2 := h x (by simp)
    have h3 := costN_le x
    simp only [bytesN, List.length_cons, Nat.add_mul]; omega
def fitsB (mi mb : Int) (l : List Nd) (i b : Int) : Bool := decide ((l.length : Int) + i ≤ mi) && decide ((bytesN l : Int) + b ≤ mb)

/-- One file more, wherever it is put. -/
theorem bytesN_perm {a b : List Nd} (h : a.Perm b) : bytesN a = bytesN b := by
  induction h with
  | nil => rfl
  | cons x _ ih => simp [bytesN, ih]
  | swap x y l => simp [bytesN]; omega
  | trans _ _ h1 h2 => exact h1.trans h2
theorem ins_perm (x : Nd) (l : List Nd) : (finN x l).Perm (x :: l) := by
  induction l with
  | nil => exact List.Perm.refl _
  | cons e r ih =>
    by_cases h : x.ino < e.ino
    · rw [fin_cons_lt h]
    · rw [fin_cons_ge h]
      exact (List.Perm.cons e ih).trans (List.Perm.swap x e r)
theorem fin_bytes (x : Nd) (l : List Nd) : bytesN (finN x l) = costN x + bytesN l := by rw [bytesN_perm (ins_perm x l)]; rfl
theorem fin_len (x : Nd) (l : List Nd) : (finN x l).length = l.length + 1 := by rw [(ins_perm x l).length_eq]; rfl
theorem filt_not {l : List Nd} {n : Int} (h : hasN l n = false) : l.filter (fun e => e.ino != n) = l := by
  refine filtN_all fun e he => ?_
  have := List.any_eq_false.1 h e he
  simpa [bne] using this
theorem fits_more {mi mb : Int} {l : List Nd} {x : Nd} (hx : x.kind = 1) (i b : Int) : fitsB mi mb (finN x l) i b = fitsB mi mb l (i + 1) (b + (x.data.length : Int)) := by
  unfold fitsB
  rw [fin_len, fin_bytes, costN_yes hx]
  congr 2
  · rw [show ((l.length + 1 : Nat) : Int) + i = (l.length : Int) + (i + 1) from by omega]
  · rw [show ((x.data.length + bytesN l : Nat) : Int) + b = (bytesN l : Int) + (b + (x.data.length : Int)) from by omega]
theorem fits_less {mi mb : Int} {l : List Nd} {i b : Int} (h : fitsB mi mb l (i + 1) b = true) : fitsB mi mb l i b = true := by
  simp only [fitsB, Bool.and_eq_true, decide_eq_true_eq] at h ⊢
  omega
end Go.Proofs.Ytpeghnhaekebdaa

/- Whether a file system is whole, as lists: the document's six rules. No program's function. -/
set_option linter.unusedVariables false
set_option linter.unusedSimpArgs false
namespace Go.Proofs.Ytpeghnhaekebdaa

theorem allT_next {α : Type} {l : List α} {p : α → Bool} {k : Nat} (h : k < l.length) (ht : (l.take k).all p = true) (hp : p l[k] = true) : (l.take (k + 1)).all p = true := by
  rw [List.take_succ_eq_append_getElem h, List.all_append, ht]; simp [hp]
theorem all_no {α : Type} {l : List α} {p : α → Bool} {k : Nat} (h : k < l.length) (hp : p l[k] = false) : l.all p = false := by
  rw [List.all_eq_false]; exact ⟨_, List.getElem_mem h, by simp [hp]⟩
theorem allT_end {α : Type} {l : List α} {p : α → Bool} (ht : (l.take l.length).all p = true) : l.all p = true := by rwa [List.take_length] at ht

/-- Rule 1. -/
def limB (mi mb nx : Int) : Bool := decide (1 ≤ mi) && decide (mi ≤ 1073741824) && decide (0 ≤ mb) && decide (mb ≤ 1073741824) && decide (nx ≤ 1099511627776)
def inoB (nx : Int) (x : Nd) : Bool := decide (1 ≤ x.ino) && decide (x.ino < nx)
def rootB (l : List Nd) : Bool := riseN l && hasN l 1 && ((getN l 1).kind == 2)
def firstB (mi mb nx : Int) (l : List Nd) : Bool := limB mi mb nx && l.all (inoB nx) && rootB l
/-- Rule 2. -/
def secondX (x : Nd) : Bool :=
  if x.kind = 2 then x.data.isEmpty && rightB x.ents
  else if x.kind = 1 then x.ents.isEmpty && decide (x.parent = 0)
  else if x.kind = 3 then x.ents.isEmpty && decide (x.parent = 0) && decide (1 ≤ x.data.length) && decide (x.data.length ≤ 4095) && x.data.all (fun c => c != 0)
  else false
def secondB (l : List Nd) : Bool := l.all secondX
/-- Rule 3. -/
def thirdX (l : List Nd) (x : Nd) : Bool := x.ents.all (fun e => hasN l e.2)
def thirdB (l : List Nd) : Bool := l.all (thirdX l)
/-- Who names whom: each entry, with the number of its directory. -/
def pairsN (l : List Nd) : List (Int × Ent) := l.flatMap (fun x => x.ents.map (fun e => (x.ino, e)))
def cntP (ps : List (Int × Ent)) (i : Int) : Nat := ps.countP (fun p => p.2.2 == i)
def lastP (ps : List (Int × Ent)) (i : Int) : Int := ((ps.filter (fun p => p.2.2 == i)).getLast?.map (·.1)).getD 0
def namesN (l : List Nd) (i : Int) : Nat := cntP (pairsN l) i
def inN (l : List Nd) (i : Int) : Int := lastP (pairsN l) i
theorem cntP_next (ps : List (Int × Ent)) (p : Int × Ent) (i : Int) : cntP (ps ++ [p]) i = if p.2.2 == i then cntP ps i + 1 else cntP ps i := by
  simp only [cntP, List.countP_append, List.countP_cons, List.countP_nil]
  split <;> omega
theorem lastP_next (ps : List (Int × Ent)) (p : Int × Ent) (i : Int) : lastP (ps ++ [p]) i = if p.2.2 == i then p.1 else lastP ps i := by
  simp only [lastP, List.filter_append]
  cases h : (p.2.2 == i) <;> simp [h]
def pairsT (l : List Nd) (k m : Nat) : List (Int × Ent) := pairsN (l.take k) ++ ((l[k]?.map (fun x => (x.ents.take m).map (fun e => (x.ino, e)))).getD [])
theorem pairsT_zero (l : List Nd) (k : Nat) : pairsT l k 0 = pairsN (l.take k) := by
  unfold pairsT
  cases l[k]? <;> simp
theorem pairsT_next {l : List Nd} {k m : Nat} (h : k < l.length) (hm : m < l[k].ents.length) : pairsT l k (m + 1) = pairsT l k m ++ [(l[k].ino, l[k].ents[m])] := by
  unfold pairsT
  rw [List.getElem?_eq_getElem h, Option.map_some, Option.map_some, Option.getD_some, Option.getD_some, List.take_succ_eq_append_getElem hm, List.map_append, ← List.append_assoc]
  rfl
theorem pairsT_end {l : List Nd} {k : Nat} (h : k < l.length) : pairsT l k l[k].ents.length = pairsN (l.take (k + 1)) := by
  unfold pairsT
  rw [List.getElem?_eq_getElem h, Option.map_some, Option.getD_some, List.take_length, List.take_succ_eq_append_getElem h]
  unfold pairsN
  rw [List.flatMap_append]
  simp only [List.flatMap_cons, List.flatMap_nil, List.append_nil]
theorem pairs_all (l : List Nd) : pairsN (l.take l.length) = pairsN l := by rw [List.take_length]
theorem pairs_len (l : List Nd) {m : Nat} (h : ∀ x ∈ l, x.ents.length ≤ m) : (pairsN l).length ≤ l.length * m := by
  unfold pairsN
  induction l with
  | nil => simp
  | cons x r ih =>
    have h1 := ih fun y hy => h y (by simp [hy])
    have h2 := h x (by simp)
    simp only [List.flatMap_cons, List.length_append, List.length_map, List.length_cons, Nat.add_mul]; omega
theorem cntP_le (ps : List (Int × Ent)) (i : Int) : cntP ps i ≤ ps.length := List.countP_le_length
theorem pairsT_len (l : List Nd) (k m : Nat) : (pairsT l k m).length ≤ (pairsN l).length := by
  rcases Nat.lt_or_ge k l.length with h | h
  · have e : pairsN l = pairsN (l.take k) ++ (l[k].ents.map (fun e => (l[k].ino, e)) ++ pairsN (l.drop (k + 1))) := by
      have e0 : l = l.take k ++ l[k] :: l.drop (k + 1) := by rw [← List.drop_eq_getElem_cons h, List.take_append_drop]
      conv => lhs; rw [e0]
      unfold pairsN
      rw [List.flatMap_append, List.flatMap_cons]
    unfold pairsT
    rw [List.getElem?_eq_getElem h, Option.map_some, Option.getD_some, e]
    simp only [List.length_append, List.length_map, List.length_take]
    omega
  · unfold pairsT
    rw [List.getElem?_eq_none h, List.take_of_length_le h]
    simp
/-- Rule 4. -/
def fourthX (l : List Nd) (x : Nd) : Bool :=
  decide (x.links = (namesN l x.ino : Int)) &&
    (if x.ino = 1 then decide (namesN l x.ino = 0) && decide (x.parent = 1)
     else decide (1 ≤ namesN l x.ino) && (if x.kind = 2 then decide (namesN l x.ino = 1) && decide (x.parent = inN l x.ino) else true))
def fourthB (l : List Nd) : Bool := l.all (fourthX l)
/-- Rule 5: rounds. -/
def seeB (s : List Int) : List Ent → List Int
  | [] => s
  | e :: r => seeB (if s.contains e.2 then s else s ++ [e.2]) r
theorem see_snoc (s : List Int) (es : List Ent) (e : Ent) : seeB s (es ++ [e]) = if (seeB s es).contains e.2 then seeB s es else seeB s es ++ [e.2] := by
  induction es generalizing s with
  | nil => rfl
  | cons a r ih => exact ih _
theorem see_next {es : List Ent} {m : Nat} (s : List Int) (h : m < es.length) : seeB s (es.take (m + 1)) = if (seeB s (es.take m)).contains es[m].2 then seeB s (es.take m) else seeB s (es.take m) ++ [es[m].2] := by
  rw [List.take_succ_eq_append_getElem h, see_snoc]
def bfsN (l : List Nd) : Nat → List Int
  | 0 => [1]
  | k + 1 => match (bfsN l k)[k]? with
    | some i => seeB (bfsN l k) (getN l i).ents
    | none => bfsN l k
theorem bfs_next {l : List Nd} {k : Nat} (h : k < (bfsN l k).length) : bfsN l (k + 1) = seeB (bfsN l k) (getN l (bfsN l k)[k]).ents := by
  show (match (bfsN l k)[k]? with | some i => _ | none => _) = _
  rw [List.getElem?_eq_getElem h]
theorem bfs_stop {l : List Nd} {k : Nat} (h : (bfsN l k).length ≤ k) : ∀ j, bfsN l (k + j) = bfsN l k := by
  intro j
  induction j with
  | zero => rfl
  | succ j ih =>
    have e : bfsN l (k + (j + 1)) = match (bfsN l (k + j))[k + j]? with | some i => seeB (bfsN l (k + j)) (getN l i).ents | none => bfsN l (k + j) := rfl
    rw [e, ih, List.getElem?_eq_none (by omega)]
def fifthB (l : List Nd) : Bool := decide ((bfsN l (l.length + 1)).length = l.length)
theorem see_has (s : List Int) (es : List Ent) (P : Int → Prop) (hs : ∀ i ∈ s, P i) (he : ∀ e ∈ es, P e.2) : ∀ i ∈ seeB s es, P i := by
  induction es generalizing s with
  | nil => exact hs
  | cons e r ih =>
    refine ih _ ?_ (fun x hx => he x (by simp [hx]))
    intro i hi
    split at hi
    · exact hs i hi
    · rcases List.mem_append.1 hi with h | h
      · exact hs i h
      · rw [List.mem_singleton.1 h]; exact he e (by simp)
theorem see_nodup (s : List Int) (es : List Ent) (hs : s.Nodup) : (seeB s es).Nodup := by
  induction es generalizing s with
  | nil => exact hs
  | cons e r ih =>
    refine ih _ ?_
    split
    · exact hs
    · rename_i h
      rw [List.contains_eq_mem, decide_eq_true_eq] at h
      refine List.nodup_append.2 ⟨hs, by simp, ?_⟩
      intro a ha b hb e2
      rw [List.mem_singleton.1 hb] at e2
      exact h (e2 ▸ ha)
theorem see_len (s : List Int) (es : List Ent) : s.length ≤ (seeB s es).length := by
  induction es generalizing s with
  | nil => exact Nat.le_refl _
  | cons e r ih =>
    refine Nat.le_trans ?_ (ih _)
    split <;> simp
theorem see_prefix (s : List Int) (es : List Ent) : s <+: seeB s es := by
  induction es generalizing s with
  | nil => exact List.prefix_rfl
  | cons e r ih =>
    refine List.IsPrefix.trans ?_ (ih _)
    split
    · exact List.prefix_rfl
    · exact List.prefix_append _ _
theorem get_mem {l : List Nd} {i : Int} (h : hasN l i = true) : getN l i ∈ l ∧ (getN l i).ino = i := by
  unfold hasN at h
  unfold getN
  cases hf : l.find? (fun e => e.ino == i) with
  | none =>
    rw [List.find?_eq_none] at hf
    rw [List.any_eq_true] at h
    obtain ⟨x, hx, hx2⟩ := h
    exact absurd hx2 (by simpa using hf x hx)
  | some x => exact ⟨List.mem_of_find?_eq_some hf, by simpa using List.find?_some hf⟩
theorem get_ents_has {l : List Nd} (h3 : thirdB l = true) (i : Int) : ∀ e ∈ (getN l i).ents, hasN l e.2 = true := by
  intro e he
  cases hh : hasN l i
  · rw [getN_none hh] at he; cases he
  · have hm := (get_mem hh).1
    have := List.all_eq_true.1 h3 _ hm
    exact List.all_eq_true.1 this e he
theorem bfs_has {l : List Nd} (h3 : thirdB l = true) (h1 : hasN l 1 = true) : ∀ k, ∀ i ∈ bfsN l k, hasN l i = true := by
  intro k
  induction k with
  | zero => intro i hi; rw [List.mem_singleton.1 hi]; exact h1
  | succ k ih =>
    rcases Nat.lt_or_ge k (bfsN l k).length with h | h
    · rw [bfs_next h]
      exact see_has _ _ (fun i => hasN l i = true) ih (get_ents_has h3 _)
    · rw [show bfsN l (k + 1) = bfsN l k from bfs_stop h 1]; exact ih
theorem bfs_nodup (l : List Nd) : ∀ k, (bfsN l k).Nodup := by
  intro k
  induction k with
  | zero => simp [bfsN]
  | succ k ih =>
    rcases Nat.lt_or_ge k (bfsN l k).length with h | h
    · rw [bfs_next h]; exact see_nodup _ _ ih
    · rw [show bfsN l (k + 1) = bfsN l k from bfs_stop h 1]; exact ih
theorem has_inos {l : List Nd} {i : Int} (h : hasN l i = true) : i ∈ l.map (·.ino) := List.mem_map.2 ⟨_, (get_mem h).1, (get_mem h).2⟩
theorem len_sub {α : Type} [DecidableEq α] (s : List α) : ∀ (t : List α), s.Nodup → (∀ x ∈ s, x ∈ t) → s.length ≤ t.length := by
  induction s with
  | nil => intro t _ _; simp
  | cons a r ih =>
    intro t hs h
    obtain ⟨h1, h2⟩ := List.nodup_cons.1 hs
    have ha := h a (by simp)
    have := ih (t.erase a) h2 (fun x hx => (List.mem_erase_of_ne (fun e : x = a => h1 (by rw [← e]; exact hx))).2 (h x (by simp [hx])))
    rw [List.length_erase_of_mem ha] at this
    have := List.length_pos_of_mem ha
    simp; omega
theorem bfs_len {l : List Nd} (h3 : thirdB l = true) (h1 : hasN l 1 = true) (k : Nat) : (bfsN l k).length ≤ l.length := by
  have hsub : ∀ i ∈ bfsN l k, i ∈ l.map (·.ino) := fun i hi => has_inos (bfs_has h3 h1 k i hi)
  have := len_sub _ _ (bfs_nodup l k) hsub
  simpa using this
theorem bfs_end {l : List Nd} (h3 : thirdB l = true) (h1 : hasN l 1 = true) {k : Nat} (h : (bfsN l k).length ≤ k) (hk : k ≤ l.length + 1) : bfsN l (l.length + 1) = bfsN l k := by
  have := bfs_stop h (l.length + 1 - k)
  rwa [show k + (l.length + 1 - k) = l.length + 1 from by omega] at this
/-- All six. -/
def checkN (mi mb nx : Int) (l : List Nd) : Int :=
  if firstB mi mb nx l = false then 1 else if secondB l = false then 2 else if thirdB l = false then 3 else if fourthB l = false then 4 else if fifthB l = false then 5 else if fitsB mi mb l 0 0 = false then 6 else 0
def okB (mi mb nx : Int) (l : List Nd) : Bool := fewN l && decide (checkN mi mb nx l = 0)
theorem first_has {mi mb nx : Int} {l : List Nd} (h : firstB mi mb nx l = true) : hasN l 1 = true := by
  simp only [firstB, rootB, Bool.and_eq_true] at h; exact h.2.1.2
end Go.Proofs.Ytpeghnhaekebdaa

/- A file system gone through, as lists. No program's function. -/
set_option linter.unusedVariables false
set_option linter.unusedSimpArgs false
namespace Go.Proofs.Ytpeghnhaekebdaa

def underB (p n : List UInt8) : List UInt8 := if p = [47] then p ++ n else p ++ [47] ++ n
theorem under_len (p n : List UInt8) : (underB p n).length ≤ p.length + 1 + n.length := by unfold underB; split <;> simp <;> omega
/-- The walk from an inode, by a path, so deep at most. -/
def belowN (l : List Nd) : Nat → Int → List UInt8 → List Ent
  | 0, _, _ => []
  | d + 1, i, p => if hasN l i = true then (p, i) :: (getN l i).ents.flatMap (fun e => belowN l d e.2 (underB p e.1)) else []
def listN (l : List Nd) : List Ent := belowN l (l.length + 1) 1 [47]
def goneN (l : List Nd) (d : Nat) (i : Int) (p : List UInt8) (k : Nat) : List Ent := (p, i) :: ((getN l i).ents.take k).flatMap (fun e => belowN l d e.2 (underB p e.1))
theorem below_no {l : List Nd} {d : Nat} {i : Int} {p : List UInt8} (h : hasN l i = false) : belowN l d i p = [] := by
  cases d with
  | zero => rfl
  | succ d => unfold belowN; rw [h]; rfl
theorem gone_zero (l : List Nd) (d : Nat) (i : Int) (p : List UInt8) : goneN l d i p 0 = [(p, i)] := by simp [goneN]
theorem gone_next {l : List Nd} {d : Nat} {i : Int} {p : List UInt8} {k : Nat} (h : k < (getN l i).ents.length) : goneN l d i p (k + 1) = goneN l d i p k ++ belowN l d (getN l i).ents[k].2 (underB p (getN l i).ents[k].1) := by
  unfold goneN
  rw [List.take_succ_eq_append_getElem h, List.flatMap_append]
  simp
theorem gone_end {l : List Nd} {d : Nat} {i : Int} {p : List UInt8} (h : hasN l i = true) : goneN l d i p (getN l i).ents.length = belowN l (d + 1) i p := by
  unfold goneN
  rw [List.take_length]
  show _ = if hasN l i = true then _ else _
  rw [if_pos h]
theorem gone_le {l : List Nd} {d : Nat} {i : Int} {p : List UInt8} (h : hasN l i = true) (k : Nat) : (goneN l d i p k).length ≤ (belowN l (d + 1) i p).length := by
  rw [← gone_end h]
  unfold goneN
  rw [List.take_length]
  have e := List.take_append_drop k (getN l i).ents
  conv => rhs; rw [← e]
  rw [List.flatMap_append]
  simp
def pathsN (l : List Nd) (i : Int) : List (List UInt8) := ((listN l).filter (fun e => e.2 == i)).map (·.1)
def pathT (L : List Ent) (i : Int) (k : Nat) : List (List UInt8) := ((L.take k).filter (fun e => e.2 == i)).map (·.1)
theorem pathT_next {L : List Ent} {i : Int} {k : Nat} (h : k < L.length) : pathT L i (k + 1) = if L[k].2 == i then pathT L i k ++ [L[k].1] else pathT L i k := by
  unfold pathT
  rw [List.take_succ_eq_append_getElem h, List.filter_append]
  cases e : (L[k].2 == i) <;> simp [e]
theorem pathT_len (L : List Ent) (i : Int) (k : Nat) : (pathT L i k).length ≤ L.length := by
  unfold pathT
  rw [List.length_map]
  exact Nat.le_trans (List.length_filter_le _ _) (by simp; omega)
theorem pathT_end (L : List Ent) (i : Int) : pathT L i L.length = (L.filter (fun e => e.2 == i)).map (·.1) := by unfold pathT; rw [List.take_length]
end Go.Proofs.Ytpeghnhaekebdaa

/- Small laws used by all walks of this seat: endings, bytes in rows of the call's own, texts made of them. -/
set_option linter.unusedVariables false
set_option linter.unusedSimpArgs false
namespace Go.Proofs.Ytpeghnhaekebdaa
open Go.RowKit

theorem ret_bool {a b : Bool} (h : a = b) : Ending.returned (.bool a) = .returned (.bool b) := by rw [h]
theorem ret_str {a b : List UInt8} (h : a = b) : Ending.returned (.string ⟨a.toArray⟩) = .returned (.string ⟨b.toArray⟩) := by rw [h]
theorem str_len {s : ByteArray} {n : Nat} (h : s.size ≤ n) : s.data.toList.length ≤ n := by rw [Array.length_toList]; exact h
theorem str_eta (s : ByteArray) : s = ⟨s.data.toList.toArray⟩ := by simp

@[go_sem] theorem str_at (l : List UInt8) (k : Nat) (h : k < (ByteArray.mk l.toArray).size) : (ByteArray.mk l.toArray)[k] = l[k]'(by have h' := h; simp [ByteArray.size] at h'; exact h') := rfl

theorem bits_and15_all : ∀ n : Fin 256, bits BinOp.and IntKind.u8 ((n.val : Nat) : Int) 15 = ((n.val : Nat) : Int) % 16 := by decide +kernel
theorem bits_and15 (n : Nat) (h : n < 256) : bits BinOp.and IntKind.u8 (n : Int) 15 = (n : Int) % 16 := bits_and15_all ⟨n, h⟩

@[go_sem] theorem take_drop_all {α : Type} (l : List α) (k : Nat) : (l.drop k).take (l.length - k) = l.drop k := List.take_of_length_le (by simp)

/-- Bytes as cells. -/
def bytesV (l : List UInt8) : List Value := l.map fun c => .int .u8 (c.toNat : Int)
theorem bytesV_append (a b : List UInt8) : bytesV (a ++ b) = bytesV a ++ bytesV b := by simp [bytesV]
theorem bytesV_one (l : List UInt8) : ∀ u ∈ bytesV l, u.oneCell' = true := by
  intro u hu; obtain ⟨_, _, rfl⟩ := List.mem_map.1 hu; rfl
theorem bytesV_len (l : List UInt8) : (bytesV l).length = l.length := by simp [bytesV]

/-- The cells of a new block of bytes. -/
theorem cells_block (w : World) (C : Array Value) (t : TypeId) : ∀ (j : Nat) (u : Value), C.toList[j]? = some u → (w.alloc (.cells C t)).cell? ((⟨w.heap.size, 0, none⟩ : Addr).add j) = some u := by
  intro j u h
  have := World.cell?_alloc_mark w C t (0, 0) j
  rw [Addr.add_lit, Nat.zero_add, this]; simpa using h

/-- A text made of an owned row of bytes. -/
theorem run_own_string {P : Program} {w : World} {base : Nat} {e : TypeId} {v : Value} {n : Nat} {l : List UInt8} (src dst : TypeId) (hs : P.underlying src = some (.slice e)) (he : P.underlying e = some (.int .u8)) (hd : P.underlying dst = some .string)
    (h : w.ownsRow base e 1 v n (bytesV l)) : (convert src dst v).run P w = .ok (.string ⟨l.toArray⟩) w := by
  have hlen := h.1
  rw [bytesV_len] at hlen
  rcases h.2 with ⟨rfl, rfl⟩ | ⟨g, cap, cur, rfl, hg, hh, hnc, hcm, hsz, htk⟩
  · have : l = [] := List.eq_nil_of_length_eq_zero (by simpa using hlen)
    subst this
    rw [run_convert_bytes_string w src dst e none 0 0 hs he hd]
    rfl
  · have hn : n = l.length := by omega
    subst hn
    refine run_convert_bytes_back w src dst e ⟨g, 0, none⟩ cap l hs he hd ?_
    intro j hj
    have hc := World.ownsRow.cells h (g := g) rfl j (.int .u8 (l[j].toNat : Int)) (by simp [bytesV, List.getElem?_eq_getElem hj])
    exact hc

theorem wpList_own_string {P : Program} {w : World} {ops : Array Oper} {rest : List Oper} {o : Oper} {a : Act} {Q : Exit → Act → World → Prop} (hgd : o.guard = none) (x : Operand) (src dst : TypeId)
    (ho : o.op = .convert src dst x) {base : Nat} {e : TypeId} {v : Value} {n : Nat} {l : List UInt8} (hs : P.underlying src = some (.slice e)) (he : P.underlying e = some (.int .u8)) (hd : P.underlying dst = some .string)
    (hx : a.eval x = v) (h : w.ownsRow base e 1 v n (bytesV l)) (hK : wpList P ops Q rest (a.put o.dst (.string ⟨l.toArray⟩)) w) : wpList P ops Q (o :: rest) a w := by
  refine wpList_plain hgd fun K hK' => ?_
  have hrun := run_own_string (P := P) src dst hs he hd h
  unfold Oper.wp
  simp [execOp, ho, hx, hrun, Result.andThen]
  exact hK' _ _ hK

theorem own_below {w w' : World} {base : Nat} {e : TypeId} {size : Nat} {v : Value} {n : Nat} {xs : List Value} (h : w.ownsRow base e size v n xs) (hg : w.grownBy w' v.ownBlock) (hb : base ≤ w.heap.size) : Below base w w' :=
  (Below.refl base w).grown hg hb fun k hk => (h.lt k hk).1

/-- What is owned stays owned behind whatever turns nothing that was there. -/
theorem own_keep {w w' : World} {base : Nat} {e : TypeId} {size : Nat} {v : Value} {n : Nat} {xs : List Value} (h : w.ownsRow base e size v n xs) (hb : Below w.heap.size w w') : w'.ownsRow base e size v n xs := by
  obtain ⟨h1, h2⟩ := h
  refine ⟨h1, ?_⟩
  rcases h2 with h2 | ⟨g, cap, cur, hv, hg, hh, r⟩
  · exact Or.inl h2
  · have hlt : g < w.heap.size := by
      rcases Nat.lt_or_ge g w.heap.size with h | h
      · exact h
      · simp [Array.getElem?_eq_none h] at hh
    exact Or.inr ⟨g, cap, cur, hv, hg, by rw [hb.block g hlt]; exact hh, r⟩

/-- 'append(s, a, b, ..)': what is appended lies in a block that was just made for it. -/
theorem wpList_append_new {P : Program} {w : World} {ops : Array Oper} {rest : List Oper} {o : Oper} {a : Act} {Q : Exit → Act → World → Prop} (hgd : o.guard = none) (s x : Operand) (t e : TypeId)
    (ho : o.op = .call { callee := .builtin .append, args := #[s, x], argTypes := #[t, t] })
    {i : TypeInfo} {z : Value} {size bytes : Nat} (ht : P.underlying t = some (.slice e)) (hi : P.info? e = some i) (hz : i.zero = some z)
    (hsize : i.size = size) (hby : i.bytes = bytes) (hzs : z.cells.size = size) (hsz : 0 < size) (hbs : bytes ≤ 128)
    (base : Nat) {v : Value} {n : Nat} {xs : List Value} (C : Array Value) (m : Nat) (hs : a.eval s = v) (hx : a.eval x = .slice (some ⟨w.heap.size, 0, none⟩) m m) (hown : w.ownsRow base e size v n xs)
    (hm : C.size = m * size) (h1 : ∀ u ∈ C.toList, u.oneCell' = true) (hb : n + m ≤ 1099511627776) (hbase : base ≤ w.heap.size)
    (hK : ∀ v' w', w'.ownsRow base e size v' (n + m) (xs ++ C.toList) → Below base w w' → wpList P ops Q rest (a.put o.dst v') w') :
    wpList P ops Q (o :: rest) a (w.alloc (.cells C e)) := by
  refine wpList_append_own _ hgd s x t ho base e i z size bytes ht hi hz hsize hby hzs hsz v n xs hs (hown.alloc _) ⟨w.heap.size, 0, none⟩ m m C.toList hx (by simpa using hm) (cells_block w C e) h1 (by unfold maxLen; omega) ?_ (by simp; omega) ?_
  · calc (n + m) * bytes ≤ 1099511627776 * 128 := Nat.mul_le_mul hb hbs
      _ ≤ 140737488355328 := by decide
  · intro v' w' h2 h3 _
    exact hK v' w' h2 (((Below.refl base w).alloc hbase _).trans (own_below (hown.alloc _) h3 (by simp; omega)))

/-- The same, and every block but the row's own stays. -/
theorem wpList_append_near {P : Program} {w : World} {ops : Array Oper} {rest : List Oper} {o : Oper} {a : Act} {Q : Exit → Act → World → Prop} (hgd : o.guard = none) (s x : Operand) (t e : TypeId)
    (ho : o.op = .call { callee := .builtin .append, args := #[s, x], argTypes := #[t, t] })
    {i : TypeInfo} {z : Value} {size bytes : Nat} (ht : P.underlying t = some (.slice e)) (hi : P.info? e = some i) (hz : i.zero = some z)
    (hsize : i.size = size) (hby : i.bytes = bytes) (hzs : z.cells.size = size) (hsz : 0 < size) (hbs : bytes ≤ 128)
    (base : Nat) {v : Value} {n : Nat} {xs : List Value} (C : Array Value) (m : Nat) (hs : a.eval s = v) (hx : a.eval x = .slice (some ⟨w.heap.size, 0, none⟩) m m) (hown : w.ownsRow base e size v n xs)
    (hm : C.size = m * size) (h1 : ∀ u ∈ C.toList, u.oneCell' = true) (hb : n + m ≤ 1099511627776) (hbase : base ≤ w.heap.size)
    (hK : ∀ v' w', w'.ownsRow base e size v' (n + m) (xs ++ C.toList) → (w.alloc (.cells C e)).grownBy w' v.ownBlock → wpList P ops Q rest (a.put o.dst v') w') :
    wpList P ops Q (o :: rest) a (w.alloc (.cells C e)) := by
  refine wpList_append_own _ hgd s x t ho base e i z size bytes ht hi hz hsize hby hzs hsz v n xs hs (hown.alloc _) ⟨w.heap.size, 0, none⟩ m m C.toList hx (by simpa using hm) (cells_block w C e) h1 (by unfold maxLen; omega) ?_ (by simp; omega) ?_
  · calc (n + m) * bytes ≤ 1099511627776 * 128 := Nat.mul_le_mul hb hbs
      _ ≤ 140737488355328 := by decide
  · intro v' w' h2 h3 _
    exact hK v' w' h2 h3

/-- The same as one step of a region that draws its order. -/
theorem step_append_own {P : Program} {ops : Array Oper} {o : Oper} {a : Act} {w : World} {K : Act → World → Prop} {Q : Exit → Act → World → Prop} {E : Prop} (hgd : o.guard = none) (s x : Operand) (t e : TypeId)
    (ho : o.op = .call { callee := .builtin .append, args := #[s, x], argTypes := #[t, t] })
    {i : TypeInfo} {z : Value} {size bytes : Nat} (ht : P.underlying t = some (.slice e)) (hi : P.info? e = some i) (hz : i.zero = some z)
    (hsize : i.size = size) (hby : i.bytes = bytes) (hzs : z.cells.size = size) (hsz : 0 < size) (hbs : bytes ≤ 128)
    (base : Nat) {v : Value} {n : Nat} {xs : List Value} (ad : Addr) (m : Nat) (news : List Value) (hs : a.eval s = v) (hx : a.eval x = .slice (some ad) m m) (hown : w.ownsRow base e size v n xs)
    (hm : news.length = m * size) (hnews : ∀ j u, news[j]? = some u → w.cell? (ad.add j) = some u) (h1 : ∀ u ∈ news, u.oneCell' = true) (hb : n + m ≤ 1099511627776) (hbase : base ≤ w.heap.size)
    (hK : ∀ v' w', w'.ownsRow base e size v' (n + m) (xs ++ news) → Below base w w' → K (a.put o.dst v') w') :
    if Region.wanted o (yielded ops a.tmps) = true then Oper.wp P o a w K Q else E := by
  rw [if_pos (by simp [Region.wanted, hgd])]
  refine wp_append_own w s x t ho base e i z size bytes ht hi hz hsize hby hzs hsz v n xs hs hown ad m m news hx hm hnews h1 (by unfold maxLen; omega) ?_ hbase ?_
  · calc (n + m) * bytes ≤ 1099511627776 * 128 := Nat.mul_le_mul hb hbs
      _ ≤ 140737488355328 := by decide
  · intro v' w' h2 h3 _
    exact hK v' w' h2 (own_below hown h3 hbase)

/-- A text made of bytes that lie in a block just made for them. -/
theorem run_new_string {P : Program} (w : World) (src dst : TypeId) {e : TypeId} (hs : P.underlying src = some (.slice e)) (he : P.underlying e = some (.int .u8)) (hd : P.underlying dst = some .string)
    (l : List UInt8) (C : Array Value) (hC : C = (bytesV l).toArray) (n : Nat) (hn : n = l.length) :
    (convert src dst (.slice (some ⟨w.heap.size, 0, none⟩) n n)).run P (w.alloc (.cells C e)) = .ok (.string ⟨l.toArray⟩) (w.alloc (.cells C e)) := by
  subst hC hn
  exact run_convert_bytes_back (P := P) (w.alloc (.cells (bytesV l).toArray e)) src dst e ⟨w.heap.size, 0, none⟩ l.length l hs he hd (by
    intro j hj
    exact cells_block w (bytesV l).toArray e j _ (by simp [bytesV, List.getElem?_eq_getElem hj]))
end Go.Proofs.Ytpeghnhaekebdaa

/- Slices of texts: one that came in, one of the call's own. -/
set_option linter.unusedVariables false
set_option linter.unusedSimpArgs false
namespace Go.Proofs.Ytpeghnhaekebdaa
open Go.RowKit

def strsV (ws : List (List UInt8)) : List Value := ws.map fun l => .string ⟨l.toArray⟩

/-- A slice that reads as these texts. -/
def Strs (w : World) (v : Value) (l : List (List UInt8)) : Prop :=
  ∃ a cap, v = .slice a l.length cap ∧ l.length ≤ maxLen ∧ (0 < l.length → ∃ b off, a = some ⟨b, off, none⟩ ∧ b < w.heap.size ∧ ∀ i (h : i < l.length), w.cell? ⟨b, off + i, none⟩ = some (.string ⟨l[i].toArray⟩))

theorem Strs.below {w w' : World} {v : Value} {l : List (List UInt8)} (h : Strs w v l) (hb : Below w.heap.size w w') : Strs w' v l := by
  obtain ⟨a, cap, rfl, hm, h1⟩ := h
  refine ⟨a, cap, rfl, hm, fun hl => ?_⟩
  obtain ⟨b, off, rfl, hlt, hc⟩ := h1 hl
  exact ⟨b, off, rfl, Nat.lt_of_lt_of_le hlt hb.size, fun i hi => (hb.cell (p := ⟨b, off + i, none⟩) hlt).trans (hc i hi)⟩

theorem Strs.nil_ (w : World) : Strs w (.slice none 0 0) [] := ⟨none, 0, rfl, Nat.zero_le _, fun h => absurd h (by simp)⟩

theorem own_strs {w : World} {base : Nat} {e : TypeId} {v : Value} {n : Nat} {l : List (List UInt8)} (h : w.ownsRow base e 1 v n (strsV l)) : Strs w v l := by
  have hlen := h.1
  simp [strsV] at hlen
  subst hlen
  rcases h.2 with ⟨rfl, h0⟩ | ⟨g, cap, cur, rfl, hg, hh, hnc, hcm, hsz, htk⟩
  · have : l = [] := List.eq_nil_of_length_eq_zero h0
    subst this
    exact ⟨none, 0, rfl, Nat.zero_le _, fun h => absurd h (by simp)⟩
  · refine ⟨_, cap, rfl, by omega, fun _ => ⟨g, 0, rfl, ?_, fun i hi => ?_⟩⟩
    · exact (h.lt g rfl).2
    · have hc := World.ownsRow.cells h (g := g) rfl i (.string ⟨l[i].toArray⟩) (by simp [strsV, List.getElem?_eq_getElem hi])
      rw [Addr.add_lit] at hc
      exact hc

/-- Texts in a block that was just made for them. -/
theorem new_strs (w : World) (t : TypeId) (C : Array Value) (l : List (List UInt8)) (n cap : Nat) (hC : C = (strsV l).toArray) (hn : n = l.length) (hm : l.length ≤ maxLen) : Strs (w.alloc (.cells C t)) (.slice (some ⟨w.heap.size, 0, none⟩) n cap) l := by
  subst hC hn
  refine ⟨_, cap, rfl, hm, fun _ => ⟨w.heap.size, 0, rfl, by simp, fun i hi => ?_⟩⟩
  have := cells_block w (strsV l).toArray t i (.string ⟨l[i].toArray⟩) (by simp [strsV, List.getElem?_eq_getElem hi])
  rw [Addr.add_lit] at this
  exact this

theorem bytesV_str (l : List UInt8) : Lib.strCells ⟨l.toArray⟩ = bytesV l := by simp [Lib.strCells, bytesV]
end Go.Proofs.Ytpeghnhaekebdaa

/- A block of cells, known whole. -/
set_option linter.unusedVariables false
set_option linter.unusedSimpArgs false
namespace Go.Proofs.Ytpeghnhaekebdaa
open Go.RowKit

/-- A block of cells, each of which may be written. -/
def Blk (W : World) (B : Nat) (t : TypeId) (cs : Array Value) : Prop := W.heap[B]? = some (.cells cs t (0, 0))
theorem Blk.lt {W : World} {B : Nat} {t : TypeId} {cs : Array Value} (h : Blk W B t cs) : B < W.heap.size := (Array.getElem?_eq_some_iff.1 h).1
theorem Blk.cell {W : World} {B : Nat} {t : TypeId} {cs : Array Value} (h : Blk W B t cs) (i : Nat) : W.cell? ⟨B, i, none⟩ = cs[i]? := by simp [World.cell?, show W.heap[B]? = _ from h]
theorem Blk.frozen {W : World} {B : Nat} {t : TypeId} {cs : Array Value} (h : Blk W B t cs) (i : Nat) : W.frozen? ⟨B, i, none⟩ = false := by simp [World.frozen?, show W.heap[B]? = _ from h]
theorem Blk.new (W : World) (t : TypeId) (cs : Array Value) : Blk (W.alloc (.cells cs t)) W.heap.size t cs := World.alloc_heap_new W _
theorem Blk.kept {W W' : World} {row : Option Nat} {B : Nat} {t : TypeId} {cs : Array Value} (h : Blk W B t cs) (hg : W.grownBy W' row) (hne : some B ≠ row) : Blk W' B t cs := (hg.block B h.lt hne).trans h
theorem Blk.below {W W' : World} {n B : Nat} {t : TypeId} {cs : Array Value} (h : Blk W B t cs) (hb : Below n W W') (hn : B < n) : Blk W' B t cs := (hb.block B hn).trans h
theorem Blk.next {W W' : World} {B : Nat} {t : TypeId} {cs : Array Value} (h : Blk W B t cs) (hb : Below W.heap.size W W') : Blk W' B t cs := h.below hb h.lt
theorem Blk.alloc {W : World} {B : Nat} {t : TypeId} {cs : Array Value} (h : Blk W B t cs) (o : Obj) : Blk (W.alloc o) B t cs := h.kept (World.grownBy_alloc W o none) (by simp)
theorem Blk.set {W : World} {B : Nat} {t : TypeId} {cs : Array Value} (h : Blk W B t cs) (i : Nat) (v : Value) : Blk (W.setCell ⟨B, i, none⟩ v) B t (cs.setIfInBounds i v) := by
  obtain ⟨hlt, hk⟩ := Array.getElem?_eq_some_iff.1 h
  show (W.heap.modify B _)[B]? = _
  rw [Array.getElem?_eq_getElem (by rw [Array.size_modify]; exact hlt), Array.getElem_modify_self, hk]
  rfl
theorem Blk.other {W : World} {B B2 i : Nat} {t : TypeId} {cs : Array Value} (h : Blk W B t cs) (hne : B ≠ B2) (v : Value) : Blk (W.setCell ⟨B2, i, none⟩ v) B t cs := by
  show (W.setCell ⟨B2, i, none⟩ v).heap[B]? = _
  rw [Below.heap_setCell _ _ _ B (fun e => hne e)]; exact h
theorem grownBy_set (W : World) (b i : Nat) (v : Value) : W.grownBy (W.setCell ⟨b, i, none⟩ v) (some b) :=
  ⟨rfl, rfl, rfl, (KeepsWalks.setCell W _ v).size, fun k _ hk => Below.heap_setCell _ _ _ k (fun e => hk (by rw [e]))⟩
end Go.Proofs.Ytpeghnhaekebdaa

/- Slices of entries: one that came in, one of the call's own. -/
set_option linter.unusedVariables false
set_option linter.unusedSimpArgs false
namespace Go.Proofs.Ytpeghnhaekebdaa
open Go.RowKit

abbrev entC (e : Ent) : Array Value := #[.string ⟨e.1.toArray⟩, .int .i64 e.2]
def entsV : List Ent → List Value
  | [] => []
  | e :: l => .string ⟨e.1.toArray⟩ :: .int .i64 e.2 :: entsV l
theorem entsV_len (l : List Ent) : (entsV l).length = l.length * 2 := by
  induction l with
  | nil => rfl
  | cons e l ih => simp [entsV, ih]; omega
theorem entsV_append (a b : List Ent) : entsV (a ++ b) = entsV a ++ entsV b := by
  induction a with
  | nil => rfl
  | cons e l ih => simp [entsV, ih]
theorem entsV_one (l : List Ent) : ∀ u ∈ entsV l, u.oneCell' = true := by
  induction l with
  | nil => simp [entsV]
  | cons e l ih =>
    intro u hu
    simp only [entsV, List.mem_cons] at hu
    rcases hu with rfl | rfl | hu
    · rfl
    · rfl
    · exact ih u hu
theorem entsV_at (l : List Ent) : ∀ (i : Nat) (h : i < l.length), (entsV l)[i * 2]? = some (.string ⟨l[i].1.toArray⟩) ∧ (entsV l)[i * 2 + 1]? = some (.int .i64 l[i].2) := by
  induction l with
  | nil => intro i h; simp at h
  | cons e l ih =>
    intro i h
    cases i with
    | zero => exact ⟨rfl, rfl⟩
    | succ i =>
      have := ih i (by simpa using h)
      rw [show (i + 1) * 2 = i * 2 + 2 from by omega, show i * 2 + 2 + 1 = i * 2 + 1 + 2 from by omega]
      simpa [entsV] using this
theorem entsV_take (l : List Ent) : ∀ k, (entsV l).take (k * 2) = entsV (l.take k) := by
  induction l with
  | nil => simp [entsV]
  | cons e l ih =>
    intro k
    cases k with
    | zero => simp [entsV]
    | succ k => rw [show (k + 1) * 2 = k * 2 + 2 from by omega]; simp [entsV, ih]
theorem entsV_drop (l : List Ent) : ∀ k, (entsV l).drop (k * 2) = entsV (l.drop k) := by
  induction l with
  | nil => simp [entsV]
  | cons e l ih =>
    intro k
    cases k with
    | zero => simp [entsV]
    | succ k => rw [show (k + 1) * 2 = k * 2 + 2 from by omega]; simp [entsV, ih]

/-- A slice that reads as these entries. -/
def Ents (w : World) (v : Value) (l : List Ent) : Prop :=
  ∃ a cap, v = .slice a l.length cap ∧ l.length ≤ cap ∧ cap ≤ maxLen ∧ (0 < l.length → ∃ b off, a = some ⟨b, off, none⟩ ∧ b < w.heap.size ∧ ∀ i (h : i < l.length), w.cell? ⟨b, off + i * 2, none⟩ = some (.string ⟨l[i].1.toArray⟩) ∧ w.cell? ⟨b, off + i * 2 + 1, none⟩ = some (.int .i64 l[i].2))

theorem Ents.below {w w' : World} {v : Value} {l : List Ent} (h : Ents w v l) (hb : Below w.heap.size w w') : Ents w' v l := by
  obtain ⟨a, cap, rfl, hc, hm, h1⟩ := h
  refine ⟨a, cap, rfl, hc, hm, fun hl => ?_⟩
  obtain ⟨b, off, rfl, hlt, hx⟩ := h1 hl
  exact ⟨b, off, rfl, Nat.lt_of_lt_of_le hlt hb.size, fun i hi => ⟨(hb.cell (p := ⟨b, off + i * 2, none⟩) hlt).trans (hx i hi).1, (hb.cell (p := ⟨b, off + i * 2 + 1, none⟩) hlt).trans (hx i hi).2⟩⟩

theorem Ents.nil_ (w : World) : Ents w (.slice none 0 0) [] := ⟨none, 0, rfl, Nat.zero_le _, Nat.zero_le _, fun h => absurd h (by simp)⟩

/-- What is owned reads so. -/
theorem own_ents {w : World} {base : Nat} {e : TypeId} {v : Value} {n : Nat} {l : List Ent} (h : w.ownsRow base e 2 v n (entsV l)) : Ents w v l := by
  have hlen := h.1
  rw [entsV_len] at hlen
  obtain rfl : n = l.length := by omega
  rcases h.2 with ⟨rfl, h0⟩ | ⟨g, cap, cur, rfl, hg, hh, hnc, hcm, hsz, htk⟩
  · have : l = [] := List.eq_nil_of_length_eq_zero h0
    subst this
    exact Ents.nil_ w
  · refine ⟨_, cap, rfl, hnc, hcm, fun _ => ⟨g, 0, rfl, (h.lt g rfl).2, fun i hi => ?_⟩⟩
    have c0 := h.cellAt (i * 2) (by omega)
    have c1 := h.cellAt (i * 2 + 1) (by omega)
    rw [(entsV_at l i hi).1] at c0
    rw [(entsV_at l i hi).2] at c1
    rw [Nat.zero_add]
    exact ⟨c0, c1⟩

/-- A piece of a slice of entries. -/
theorem Ents.cut {w : World} {a : Option Addr} {n cap : Nat} {l : List Ent} (h : Ents w (.slice a n cap) l) (k m : Nat) (hk : k ≤ l.length) (hm : k ≤ m) (hml : m ≤ l.length) (a' : Option Addr) (cap' : Nat) (hc : m - k ≤ cap') (hcm : cap' ≤ maxLen)
    (ha : k < m → ∀ b off, a = some ⟨b, off, none⟩ → a' = some ⟨b, off + k * 2, none⟩) : Ents w (.slice a' (m - k) cap') ((l.take m).drop k) := by
  obtain ⟨x, c, hx, hlc, hcx, h1⟩ := h
  simp only [Value.slice.injEq] at hx
  obtain ⟨rfl, rfl, rfl⟩ := hx
  have hlen : ((l.take m).drop k).length = m - k := by rw [List.length_drop, List.length_take, Nat.min_eq_left hml]
  refine ⟨a', cap', by rw [hlen], by rw [hlen]; exact hc, hcm, fun hl => ?_⟩
  rw [hlen] at hl
  obtain ⟨b, off, rfl, hlt, hcell⟩ := h1 (by omega)
  refine ⟨b, off + k * 2, ha (by omega) b off rfl, hlt, fun i hi => ?_⟩
  rw [hlen] at hi
  have := hcell (k + i) (by omega)
  rw [show off + (k + i) * 2 = off + k * 2 + i * 2 from by omega] at this
  simpa using this

theorem Ents.head {w : World} {a : Option Addr} {n cap : Nat} {l : List Ent} (h : Ents w (.slice a n cap) l) (k cap' : Nat) (hk : k ≤ l.length) (hc : k ≤ cap') (hcm : cap' ≤ maxLen) : Ents w (.slice a k cap') (l.take k) := by
  have := h.cut 0 k (Nat.zero_le _) (Nat.zero_le _) hk a cap' (by omega) hcm (fun _ b off e => by rw [e]; simp)
  simpa using this
theorem Ents.tail {w : World} {a : Option Addr} {n cap : Nat} {l : List Ent} (h : Ents w (.slice a n cap) l) (k : Nat) (a' : Option Addr) (m cap' : Nat) (hk : k ≤ l.length) (hm : m = l.length - k) (hc : l.length - k ≤ cap') (hcm : cap' ≤ maxLen)
    (ha : k < l.length → a' = a.map fun x => x.add (k * 2)) : Ents w (.slice a' m cap') (l.drop k) := by
  subst hm
  have := h.cut k l.length hk hk (Nat.le_refl _) a' cap' hc hcm (fun hkl b off e => by rw [ha hkl, e, Option.map_some, Addr.add_lit])
  simpa using this

/-- The cells of a slice of entries, as a source of a copy or an append. -/
theorem Ents.src {w : World} {a : Option Addr} {n cap : Nat} {l : List Ent} (h : Ents w (.slice a n cap) l) (hl : 0 < l.length) : ∃ ad : Addr, a = some ad ∧ ad.block < w.heap.size ∧ ∀ j v, (entsV l)[j]? = some v → w.cell? (ad.add j) = some v := by
  obtain ⟨x, c, hx, _, _, h1⟩ := h
  simp only [Value.slice.injEq] at hx
  obtain ⟨rfl, rfl, rfl⟩ := hx
  obtain ⟨b, off, rfl, hlt, hcell⟩ := h1 hl
  refine ⟨_, rfl, hlt, fun j v hv => ?_⟩
  have hj : j < l.length * 2 := by
    rcases Nat.lt_or_ge j (entsV l).length with h | h
    · rwa [entsV_len] at h
    · rw [List.getElem?_eq_none h] at hv; cases hv
  have hc := hcell (j / 2) (by omega)
  have he := entsV_at l (j / 2) (by omega)
  rw [Addr.add_lit]
  rcases Nat.mod_two_eq_zero_or_one j with h2 | h2
  · have e : j / 2 * 2 = j := by omega
    rw [e] at hc he
    rw [he.1] at hv; rw [← hv]; exact hc.1
  · have e : j / 2 * 2 + 1 = j := by omega
    rw [show off + j / 2 * 2 + 1 = off + (j / 2 * 2 + 1) from by omega, e] at hc
    rw [e] at he
    rw [he.2] at hv; rw [← hv]; exact hc.2
end Go.Proofs.Ytpeghnhaekebdaa

/- Slices of inodes: one that came in, one of the call's own. -/
set_option linter.unusedVariables false
set_option linter.unusedSimpArgs false
namespace Go.Proofs.Ytpeghnhaekebdaa
open Go.RowKit

abbrev ndC (x : Nd) : Array Value := #[.int .i64 x.ino, .int .i64 x.kind, .int .i64 x.links, .string ⟨x.data.toArray⟩, .int .i64 x.parent, x.ev]
def ndsV : List Nd → List Value
  | [] => []
  | x :: l => .int .i64 x.ino :: .int .i64 x.kind :: .int .i64 x.links :: .string ⟨x.data.toArray⟩ :: .int .i64 x.parent :: x.ev :: ndsV l
theorem ndsV_len (l : List Nd) : (ndsV l).length = l.length * 6 := by
  induction l with
  | nil => rfl
  | cons e l ih => simp [ndsV, ih]; omega
theorem ndsV_append (a b : List Nd) : ndsV (a ++ b) = ndsV a ++ ndsV b := by
  induction a with
  | nil => rfl
  | cons e l ih => simp [ndsV, ih]

/-- Each inode's entries. -/
def EntsAll (w : World) (l : List Nd) : Prop := ∀ x ∈ l, Ents w x.ev x.ents
theorem EntsAll.below {w w' : World} {l : List Nd} (h : EntsAll w l) (hb : Below w.heap.size w w') : EntsAll w' l := fun x hx => (h x hx).below hb
theorem EntsAll.sub {w : World} {l l' : List Nd} (h : EntsAll w l) (hs : ∀ x ∈ l', x ∈ l) : EntsAll w l' := fun x hx => h x (hs x hx)
theorem Ents.one {w : World} {v : Value} {l : List Ent} (h : Ents w v l) : v.oneCell' = true := by obtain ⟨a, cap, rfl, _⟩ := h; rfl
theorem ndsV_one {w : World} {l : List Nd} (h : EntsAll w l) : ∀ u ∈ ndsV l, u.oneCell' = true := by
  induction l with
  | nil => simp [ndsV]
  | cons e l ih =>
    intro u hu
    simp only [ndsV, List.mem_cons] at hu
    rcases hu with rfl | rfl | rfl | rfl | rfl | rfl | hu
    · rfl
    · rfl
    · rfl
    · rfl
    · rfl
    · exact (h e (by simp)).one
    · exact ih (h.sub (by simp +contextual)) u hu

/-- An inode's six cells. -/
def NdAt (w : World) (b o : Nat) (x : Nd) : Prop :=
  w.cell? ⟨b, o, none⟩ = some (.int .i64 x.ino) ∧ w.cell? ⟨b, o + 1, none⟩ = some (.int .i64 x.kind) ∧ w.cell? ⟨b, o + 2, none⟩ = some (.int .i64 x.links) ∧
    w.cell? ⟨b, o + 3, none⟩ = some (.string ⟨x.data.toArray⟩) ∧ w.cell? ⟨b, o + 4, none⟩ = some (.int .i64 x.parent) ∧ w.cell? ⟨b, o + 5, none⟩ = some x.ev
theorem NdAt.below {w w' : World} {b o n : Nat} {x : Nd} (h : NdAt w b o x) (hb : Below n w w') (hn : b < n) : NdAt w' b o x :=
  ⟨(hb.cell (p := ⟨b, o, none⟩) hn).trans h.1, (hb.cell (p := ⟨b, o + 1, none⟩) hn).trans h.2.1, (hb.cell (p := ⟨b, o + 2, none⟩) hn).trans h.2.2.1, (hb.cell (p := ⟨b, o + 3, none⟩) hn).trans h.2.2.2.1,
    (hb.cell (p := ⟨b, o + 4, none⟩) hn).trans h.2.2.2.2.1, (hb.cell (p := ⟨b, o + 5, none⟩) hn).trans h.2.2.2.2.2⟩
theorem ndsV_at (l : List Nd) : ∀ (i : Nat) (h : i < l.length), (ndsV l)[i * 6]? = some (.int .i64 l[i].ino) ∧ (ndsV l)[i * 6 + 1]? = some (.int .i64 l[i].kind) ∧ (ndsV l)[i * 6 + 2]? = some (.int .i64 l[i].links) ∧
    (ndsV l)[i * 6 + 3]? = some (.string ⟨l[i].data.toArray⟩) ∧ (ndsV l)[i * 6 + 4]? = some (.int .i64 l[i].parent) ∧ (ndsV l)[i * 6 + 5]? = some l[i].ev := by
  induction l with
  | nil => intro i h; simp at h
  | cons e l ih =>
    intro i h
    cases i with
    | zero => exact ⟨rfl, rfl, rfl, rfl, rfl, rfl⟩
    | succ i =>
      have := ih i (by simpa using h)
      rw [show (i + 1) * 6 = i * 6 + 6 from by omega, show i * 6 + 6 + 1 = i * 6 + 1 + 6 from by omega, show i * 6 + 6 + 2 = i * 6 + 2 + 6 from by omega, show i * 6 + 6 + 3 = i * 6 + 3 + 6 from by omega,
        show i * 6 + 6 + 4 = i * 6 + 4 + 6 from by omega, show i * 6 + 6 + 5 = i * 6 + 5 + 6 from by omega]
      simpa [ndsV] using this

/-- A slice that reads as these inodes. -/
def Nds (w : World) (v : Value) (l : List Nd) : Prop :=
  ∃ a cap, v = .slice a l.length cap ∧ l.length ≤ cap ∧ cap ≤ maxLen ∧ EntsAll w l ∧ (a = none → cap = 0) ∧ (0 < l.length → ∃ b off, a = some ⟨b, off, none⟩ ∧ b < w.heap.size ∧ ∀ i (h : i < l.length), NdAt w b (off + i * 6) l[i])

theorem Nds.all {w : World} {v : Value} {l : List Nd} (h : Nds w v l) : EntsAll w l := by obtain ⟨_, _, _, _, _, h, _⟩ := h; exact h
theorem Nds.below {w w' : World} {v : Value} {l : List Nd} (h : Nds w v l) (hb : Below w.heap.size w w') : Nds w' v l := by
  obtain ⟨a, cap, rfl, hc, hm, he, h0, h1⟩ := h
  refine ⟨a, cap, rfl, hc, hm, he.below hb, h0, fun hl => ?_⟩
  obtain ⟨b, off, rfl, hlt, hx⟩ := h1 hl
  exact ⟨b, off, rfl, Nat.lt_of_lt_of_le hlt hb.size, fun i hi => (hx i hi).below hb hlt⟩
theorem Nds.nil_ (w : World) : Nds w (.slice none 0 0) [] := ⟨none, 0, rfl, Nat.zero_le _, Nat.zero_le _, (fun _ h => nomatch h), (fun _ => rfl), (fun h => absurd h (by simp))⟩

/-- What is owned reads so. -/
theorem own_nds {w : World} {base : Nat} {e : TypeId} {v : Value} {n : Nat} {l : List Nd} (h : w.ownsRow base e 6 v n (ndsV l)) (he : EntsAll w l) : Nds w v l := by
  have hlen := h.1
  rw [ndsV_len] at hlen
  obtain rfl : n = l.length := by omega
  rcases h.2 with ⟨rfl, h0⟩ | ⟨g, cap, cur, rfl, hg, hh, hnc, hcm, hsz, htk⟩
  · have : l = [] := List.eq_nil_of_length_eq_zero h0
    subst this
    exact Nds.nil_ w
  · refine ⟨_, cap, rfl, hnc, hcm, he, fun h => (by cases h), fun _ => ⟨g, 0, rfl, (h.lt g rfl).2, fun i hi => ?_⟩⟩
    have hat := ndsV_at l i hi
    have c := fun j (hj : j < l.length * 6) => h.cellAt j hj
    rw [Nat.zero_add]
    exact ⟨(c _ (by omega)).trans hat.1, (c _ (by omega)).trans hat.2.1, (c _ (by omega)).trans hat.2.2.1, (c _ (by omega)).trans hat.2.2.2.1, (c _ (by omega)).trans hat.2.2.2.2.1, (c _ (by omega)).trans hat.2.2.2.2.2⟩
theorem blk_nds {w : World} {g : Nat} {t : TypeId} {L : List Nd} (h : Blk w g t (ndsV L).toArray) (hl : L.length ≤ maxLen) (he : EntsAll w L) (n : Nat) (hn : n = L.length) : Nds w (.slice (some ⟨g, 0, none⟩) n n) L := by
  subst hn
  refine ⟨_, _, rfl, Nat.le_refl _, hl, he, fun h => (by cases h), fun _ => ⟨g, 0, rfl, h.lt, fun i hi => ?_⟩⟩
  have hat := ndsV_at L i hi
  unfold NdAt
  rw [h.cell, h.cell, h.cell, h.cell, h.cell, h.cell, Nat.zero_add]
  simpa using hat

/-- A piece of a slice of inodes. -/
theorem Nds.cut {w : World} {a : Option Addr} {n cap : Nat} {l : List Nd} (h : Nds w (.slice a n cap) l) (k m : Nat) (hk : k ≤ l.length) (hm : k ≤ m) (hml : m ≤ l.length) (a' : Option Addr) (cap' : Nat) (hc : m - k ≤ cap') (hcm : cap' ≤ maxLen) (hn : a' = none → cap' = 0)
    (ha : k < m → ∀ b off, a = some ⟨b, off, none⟩ → a' = some ⟨b, off + k * 6, none⟩) : Nds w (.slice a' (m - k) cap') ((l.take m).drop k) := by
  obtain ⟨x, c, hx, hlc, hcx, he, h0, h1⟩ := h
  simp only [Value.slice.injEq] at hx
  obtain ⟨rfl, rfl, rfl⟩ := hx
  have hlen : ((l.take m).drop k).length = m - k := by rw [List.length_drop, List.length_take, Nat.min_eq_left hml]
  refine ⟨a', cap', by rw [hlen], by rw [hlen]; exact hc, hcm, he.sub fun x hx => List.mem_of_mem_take (List.mem_of_mem_drop hx), hn, fun hl => ?_⟩
  rw [hlen] at hl
  obtain ⟨b, off, rfl, hlt, hcell⟩ := h1 (by omega)
  refine ⟨b, off + k * 6, ha (by omega) b off rfl, hlt, fun i hi => ?_⟩
  rw [hlen] at hi
  have := hcell (k + i) (by omega)
  rw [show off + (k + i) * 6 = off + k * 6 + i * 6 from by omega] at this
  simpa using this
theorem Nds.head {w : World} {a : Option Addr} {n cap : Nat} {l : List Nd} (h : Nds w (.slice a n cap) l) (k cap' : Nat) (hk : k ≤ l.length) (hc : k ≤ cap') (hcm : cap' ≤ maxLen) (hn : a = none → cap' = 0) : Nds w (.slice a k cap') (l.take k) := by
  have := h.cut 0 k (Nat.zero_le _) (Nat.zero_le _) hk a cap' (by omega) hcm hn (fun _ b off e => by rw [e]; simp)
  simpa using this
theorem Nds.tail {w : World} {a : Option Addr} {n cap : Nat} {l : List Nd} (h : Nds w (.slice a n cap) l) (k : Nat) (a' : Option Addr) (m cap' : Nat) (hk : k ≤ l.length) (hm : m = l.length - k) (hc : l.length - k ≤ cap') (hcm : cap' ≤ maxLen) (hn : a' = none → cap' = 0)
    (ha : k < l.length → a' = a.map fun x => x.add (k * 6)) : Nds w (.slice a' m cap') (l.drop k) := by
  subst hm
  have := h.cut k l.length hk hk (Nat.le_refl _) a' cap' hc hcm hn (fun hkl b off e => by rw [ha hkl, e, Option.map_some, Addr.add_lit])
  simpa using this

/-- The cells of a slice of inodes, as a source of an append. -/
theorem Nds.src {w : World} {a : Option Addr} {n cap : Nat} {l : List Nd} (h : Nds w (.slice a n cap) l) : ∀ ad, a = some ad → ∀ j v, (ndsV l)[j]? = some v → w.cell? (ad.add j) = some v := by
  intro ad had j v hv
  have hj : j < l.length * 6 := by
    rcases Nat.lt_or_ge j (ndsV l).length with h | h
    · rwa [ndsV_len] at h
    · rw [List.getElem?_eq_none h] at hv; cases hv
  obtain ⟨x, c, hx, _, _, _, _, h1⟩ := h
  simp only [Value.slice.injEq] at hx
  obtain ⟨rfl, rfl, rfl⟩ := hx
  obtain ⟨b, off, e, hlt, hcell⟩ := h1 (by omega)
  obtain rfl : ad = ⟨b, off, none⟩ := by rw [had] at e; exact Option.some.inj e
  obtain ⟨q, r, hr, rfl⟩ : ∃ q r, r < 6 ∧ j = q * 6 + r := ⟨j / 6, j % 6, by omega, by omega⟩
  have hc := hcell q (by omega)
  have he := ndsV_at l q (by omega)
  rw [Addr.add_lit]
  have hm : r = 0 ∨ r = 1 ∨ r = 2 ∨ r = 3 ∨ r = 4 ∨ r = 5 := by omega
  unfold NdAt at hc
  rw [← Nat.add_assoc]
  rcases hm with rfl | rfl | rfl | rfl | rfl | rfl
  · rw [Nat.add_zero] at hv ⊢; rw [← hv, he.1]; exact hc.1
  · rw [← hv, he.2.1]; exact hc.2.1
  · rw [← hv, he.2.2.1]; exact hc.2.2.1
  · rw [← hv, he.2.2.2.1]; exact hc.2.2.2.1
  · rw [← hv, he.2.2.2.2.1]; exact hc.2.2.2.2.1
  · rw [← hv, he.2.2.2.2.2]; exact hc.2.2.2.2.2
end Go.Proofs.Ytpeghnhaekebdaa

/-
  DERIVED: THE SHELF's CONTRACTS AT THIS DUMP, IN PLAIN WORDS (tools/lay-plain.mjs out of 'TryShelf.lean', which tools/lay-shelf.mjs wrote): THE SAME DECLARATIONS UNDER THE SAME NAMES: 'import', 'namespace', 'open', 'def', 'theorem' AND NOTHING ELSE: no command of the shelf's: FOR A HAND-IN. Each laying: the table of numbers ('.._ren') and one theorem, a field a fact of the dump's own or the kernel's comparison; each contract: ONE APPLICATION.
-/
namespace Go.Proofs
open Go.Shelf
def Try.lays169_ren : Go.Shelf.Ren := ⟨fun | 169 => 61 | n => n, fun | 70 => 95 | 9 => 9 | 0 => 0 | 72 => 98 | 37 => 96 | 127 => 106 | 3 => 3 | 5 => 5 | n => n, fun | n => n⟩
theorem Try.lays169 : Go.Proofs.Lays.n169 Try.prog Try.lays169_ren := {
  mixed := by kernel_rfl
  f169 := Try.func61.trans (congrArg some (by kernel_rfl))
  t0 := Try.underlying0
  a0 := Try.isAgg0
  z0 := Try.sizeOf0
  v0 := Try.zeroValue0
  t3 := Try.underlying3
  a3 := Try.isAgg3
  z3 := Try.sizeOf3
  v3 := Try.zeroValue3
  t9 := Try.underlying9
  a9 := Try.isAgg9
  z9 := Try.sizeOf9
  v9 := Try.zeroValue9
  t37 := Try.underlying96
  a37 := Try.isAgg96
  z37 := Try.sizeOf96
  v37 := Try.zeroValue96
  t70 := Try.underlying95
  a70 := Try.isAgg95
  z70 := Try.sizeOf95
  v70 := Try.zeroValue95
  t72 := Try.underlying98
  a72 := Try.isAgg98
  z72 := Try.sizeOf98
  v72 := Try.zeroValue98
  t127 := Try.underlying106
  a127 := Try.isAgg106
  z127 := Try.sizeOf106
  v127 := Try.zeroValue106 }
theorem Try.Builder_Extra_169 : Builder.Extra Try.prog Try.lays169_ren := {
  sizeBuilder := by kernel_rfl
  liesBuilder := by kernel_rfl
  t5 := Try.underlying5
  a5 := Try.isAgg5
  z5 := Try.sizeOf5
  v5 := Try.zeroValue5
  infoByte := by kernel_rfl
  cellsByte := by kernel_rfl
  sizeByte := by kernel_rfl
  neB5 := by decide }
open Go.RowKit in
/-- (*strings.Builder).String: "String returns the accumulated string.": OF A BUILDER THAT HOLDS AT LEAST ONE BYTE. ✋ THE MODEL FREEZES THOSE BYTES IN THE BUFFER (unsafe.String): a later write INTO them ends the model's run without an answer; a later append BEHIND them goes on. The statement's order of evaluation is drawn: one draw. (LAID: no walk: one application.) -/
theorem Try.Builder_String (B b : Nat) (l : List UInt8) (w : World) (h : Lib.IsBuilder 98 5 B b (Lib.byteCells l) w) (h0 : l ≠ []) :
    Calls Try.prog 61 #[.pointer (some ⟨b, 0, none⟩)] w fun e w' => e = .returned (.string ⟨l.toArray⟩) ∧ Below B w w' := Any.Builder_String Try.lays169 Try.Builder_Extra_169 B b l w h h0
open Go.RowKit in
/-- (*strings.Builder).String OF A BUILDER THAT HOLDS NO BYTE: the empty string. (Its buffer is nil, or a row of which it has taken nothing yet; where that row has NO capacity the model lays one new block for unsafe.SliceData's 'some address'.) One draw. (LAID: no walk: one application.) -/
theorem Try.Builder_String_empty (B b : Nat) (w : World) (h : Lib.IsBuilder 98 5 B b [] w) (hBw : B ≤ w.heap.size) :
    Calls Try.prog 61 #[.pointer (some ⟨b, 0, none⟩)] w fun e w' => e = .returned (.string ⟨#[]⟩) ∧ Below B w w' := Any.Builder_String_empty Try.lays169 Try.Builder_Extra_169 B b w h hBw
open Go.RowKit in
/-- (*strings.Builder).String: "String returns the accumulated string.": WHATEVER THE BUILDER HOLDS. (LAID: no walk: one application.) -/
theorem Try.Builder_String_any (B b : Nat) (l : List UInt8) (w : World) (h : Lib.IsBuilder 98 5 B b (Lib.byteCells l) w) (hBw : B ≤ w.heap.size) :
    Calls Try.prog 61 #[.pointer (some ⟨b, 0, none⟩)] w fun e w' => e = .returned (.string ⟨l.toArray⟩) ∧ Below B w w' := Any.Builder_String_any Try.lays169 Try.Builder_Extra_169 B b l w h hBw
def Try.lays215_ren : Go.Shelf.Ren := ⟨fun | 215 => 62 | n => n, fun | 3 => 3 | 4 => 4 | n => n, fun | n => n⟩
theorem Try.lays215 : Go.Proofs.Lays.n215 Try.prog Try.lays215_ren := {
  mixed := by kernel_rfl
  f215 := Try.func62.trans (congrArg some (by kernel_rfl))
  t3 := Try.underlying3
  a3 := Try.isAgg3
  z3 := Try.sizeOf3
  v3 := Try.zeroValue3
  t4 := Try.underlying4
  a4 := Try.isAgg4
  z4 := Try.sizeOf4
  v4 := Try.zeroValue4 }
open Go.RowKit in
/-- cmp.isNaN at int: 'x != x': false. (LAID: no walk: one application.) -/
theorem Try.cmp_isNaN_int (x : Int) (w : World) :
    Calls Try.prog 62 #[.int .i64 x] w fun e w' => e = .returned (.bool false) ∧ w' = w := Any.cmp_isNaN_int Try.lays215 x w
def Try.lays122_ren : Go.Shelf.Ren := ⟨fun | 122 => 49 | 215 => 62 | n => n, fun | 3 => 3 | 4 => 4 | n => n, fun | n => n⟩
theorem Try.lays122 : Go.Proofs.Lays.n122 Try.prog Try.lays122_ren := {
  mixed := by kernel_rfl
  f122 := Try.func49.trans (congrArg some (by kernel_rfl))
  f215 := Try.func62.trans (congrArg some (by kernel_rfl))
  t3 := Try.underlying3
  a3 := Try.isAgg3
  z3 := Try.sizeOf3
  v3 := Try.zeroValue3
  t4 := Try.underlying4
  a4 := Try.isAgg4
  z4 := Try.sizeOf4
  v4 := Try.zeroValue4 }
open Go.RowKit in
/-- cmp.Compare at int: "Compare returns -1 if x is less than y, 0 if x equals y, +1 if x is greater than y.": IT RETURNS 'Lib.compareInt x y'; the world is as it was. (LAID: no walk: one application.) -/
theorem Try.cmp_Compare_int (x y : Int) (w : World) :
    Calls Try.prog 49 #[.int .i64 x, .int .i64 y] w fun e w' => e = .returned (.int .i64 (Lib.compareInt x y)) ∧ w' = w := Any.cmp_Compare_int Try.lays122 x y w
open Go.RowKit in
/-- (*strings.Builder).String: "String returns the accumulated string.": OF A BUILDER THAT HOLDS AT LEAST ONE BYTE. ✋ THE MODEL FREEZES THOSE BYTES IN THE BUFFER (unsafe.String): a later write INTO them ends the model's run without an answer; a later append BEHIND them goes on. The statement's order of evaluation is drawn: one draw. THE FORM '_f': IT SAYS BESIDES THAT THE BUILDER IS A BUILDER STILL ('Lib.IsBuilderF', the same bytes): SO IT CAN BE WRITTEN ON: 'b.WriteString(b.String()[:k])'. (LAID: no walk: one application.) -/
theorem Try.Builder_String_f (B b : Nat) (l : List UInt8) (w : World) (h : Lib.IsBuilderF 98 5 B b (Lib.byteCells l) w) (h0 : l ≠ []) :
    Calls Try.prog 61 #[.pointer (some ⟨b, 0, none⟩)] w fun e w' => e = .returned (.string ⟨l.toArray⟩) ∧ (Lib.IsBuilderF 98 5 B b (Lib.byteCells l) w' ∧ Below B w w') := Any.Builder_String_f Try.lays169 Try.Builder_Extra_169 B b l w h h0
open Go.RowKit in
/-- (*strings.Builder).String OF A BUILDER THAT HOLDS NO BYTE: the empty string; THE FORM '_f': a builder still. (LAID: no walk: one application.) -/
theorem Try.Builder_String_empty_f (B b : Nat) (w : World) (h : Lib.IsBuilderF 98 5 B b [] w) (hBw : B ≤ w.heap.size) :
    Calls Try.prog 61 #[.pointer (some ⟨b, 0, none⟩)] w fun e w' => e = .returned (.string ⟨#[]⟩) ∧ (Lib.IsBuilderF 98 5 B b [] w' ∧ Below B w w') := Any.Builder_String_empty_f Try.lays169 Try.Builder_Extra_169 B b w h hBw
open Go.RowKit in
/-- (*strings.Builder).String: "String returns the accumulated string.": WHATEVER THE BUILDER HOLDS; THE FORM '_f': OF A BUILDER THAT MAY HAVE BEEN READ BEFORE; AND IT IS A BUILDER STILL, holding the same bytes: it can be written on. (LAID: no walk: one application.) -/
theorem Try.Builder_String_any_f (B b : Nat) (l : List UInt8) (w : World) (h : Lib.IsBuilderF 98 5 B b (Lib.byteCells l) w) (hBw : B ≤ w.heap.size) :
    Calls Try.prog 61 #[.pointer (some ⟨b, 0, none⟩)] w fun e w' => e = .returned (.string ⟨l.toArray⟩) ∧ (Lib.IsBuilderF 98 5 B b (Lib.byteCells l) w' ∧ Below B w w') := Any.Builder_String_any_f Try.lays169 Try.Builder_Extra_169 B b l w h hBw
open Go.RowKit in
/-- (*strings.Builder).String: "String returns the accumulated string.": OF A BUILDER THAT HOLDS AT LEAST ONE BYTE. ✋ THE MODEL FREEZES THOSE BYTES IN THE BUFFER (unsafe.String): a later write INTO them ends the model's run without an answer; a later append BEHIND them goes on. The statement's order of evaluation is drawn: one draw. THE FORM '_k': OVER 'Lib.IsBuilderF' (a builder that 'String()' may have read), AND WITH THE FRAME THAT REACHES ABOVE THE BUILDER: 'Lib.OthersKept': every block that is not b and is no row of uint8's stands as it stood: the iterator of a range among them. (LAID: no walk: one application.) -/
theorem Try.Builder_String_k (B b : Nat) (l : List UInt8) (w : World) (h : Lib.IsBuilderF 98 5 B b (Lib.byteCells l) w) (h0 : l ≠ []) :
    Calls Try.prog 61 #[.pointer (some ⟨b, 0, none⟩)] w fun e w' => e = .returned (.string ⟨l.toArray⟩) ∧ (Lib.IsBuilderF 98 5 B b (Lib.byteCells l) w' ∧ Below B w w' ∧ Lib.OthersKept 5 (some b) w w') := Any.Builder_String_k Try.lays169 Try.Builder_Extra_169 B b l w h h0
open Go.RowKit in
/-- (*strings.Builder).String OF A BUILDER THAT HOLDS NO BYTE: the empty string; THE FORM '_k': OVER 'Lib.IsBuilderF' (a builder that 'String()' may have read), AND WITH THE FRAME THAT REACHES ABOVE THE BUILDER: 'Lib.OthersKept': every block that is not b and is no row of uint8's stands as it stood: the iterator of a range among them. (LAID: no walk: one application.) -/
theorem Try.Builder_String_empty_k (B b : Nat) (w : World) (h : Lib.IsBuilderF 98 5 B b [] w) (hBw : B ≤ w.heap.size) :
    Calls Try.prog 61 #[.pointer (some ⟨b, 0, none⟩)] w fun e w' => e = .returned (.string ⟨#[]⟩) ∧ (Lib.IsBuilderF 98 5 B b [] w' ∧ Below B w w' ∧ Lib.OthersKept 5 (some b) w w') := Any.Builder_String_empty_k Try.lays169 Try.Builder_Extra_169 B b w h hBw
open Go.RowKit in
/-- (*strings.Builder).String: "String returns the accumulated string.": WHATEVER THE BUILDER HOLDS; THE FORM '_k': OVER 'Lib.IsBuilderF' (a builder that 'String()' may have read), AND WITH THE FRAME THAT REACHES ABOVE THE BUILDER: 'Lib.OthersKept': every block that is not b and is no row of uint8's stands as it stood: the iterator of a range among them. (LAID: no walk: one application.) -/
theorem Try.Builder_String_any_k (B b : Nat) (l : List UInt8) (w : World) (h : Lib.IsBuilderF 98 5 B b (Lib.byteCells l) w) (hBw : B ≤ w.heap.size) :
    Calls Try.prog 61 #[.pointer (some ⟨b, 0, none⟩)] w fun e w' => e = .returned (.string ⟨l.toArray⟩) ∧ (Lib.IsBuilderF 98 5 B b (Lib.byteCells l) w' ∧ Below B w w' ∧ Lib.OthersKept 5 (some b) w w') := Any.Builder_String_any_k Try.lays169 Try.Builder_Extra_169 B b l w h hBw
def Try.laysM316_ren : Go.Shelf.Ren := ⟨fun | 316 => 50 | n => n, fun | 9 => 9 | 3 => 3 | 4 => 4 | 37 => 96 | 0 => 0 | 127 => 106 | 5 => 5 | n => n, fun | n => n⟩
theorem Try.laysM316 : Go.Proofs.LaysM.n316 Try.prog Try.laysM316_ren := {
  mixed := by kernel_rfl
  f316 := Try.func50.trans (congrArg some (by kernel_rfl))
  t0 := Try.underlying0
  a0 := Try.isAgg0
  z0 := Try.sizeOf0
  v0 := Try.zeroValue0
  t3 := Try.underlying3
  a3 := Try.isAgg3
  z3 := Try.sizeOf3
  v3 := Try.zeroValue3
  t4 := Try.underlying4
  a4 := Try.isAgg4
  z4 := Try.sizeOf4
  v4 := Try.zeroValue4
  t9 := Try.underlying9
  a9 := Try.isAgg9
  z9 := Try.sizeOf9
  v9 := Try.zeroValue9
  t37 := Try.underlying96
  a37 := Try.isAgg96
  z37 := Try.sizeOf96
  v37 := Try.zeroValue96
  t127 := Try.underlying106
  a127 := Try.isAgg106
  z127 := Try.sizeOf106
  v127 := Try.zeroValue106
  t5 := Try.underlying5
  a5 := Try.isAgg5
  z5 := Try.sizeOf5
  v5 := Try.zeroValue5
  i0 := by kernel_rfl
  i3 := by kernel_rfl
  i4 := by kernel_rfl
  i5 := by kernel_rfl
  i9 := by kernel_rfl
  i37 := by kernel_rfl
  i127 := by kernel_rfl }
open Go.RowKit in
/-- internal/stringslite.Clone (what strings.Clone calls): "Clone returns a fresh copy of s.": THE SAME BYTES. Of what was there nothing has turned (a new row is laid, and frozen, where s is not empty). (LAID: no walk: one application.) -/
theorem Try.stringslite_Clone (s : ByteArray) (w : World) (hlim : s.size ≤ 281474976710656) :
    Calls Try.prog 50 #[.string s] w fun e w' => e = .returned (.string s) ∧ Below w.heap.size w w' := Any.stringslite_Clone Try.laysM316 s w hlim
def Try.lays217_ren : Go.Shelf.Ren := ⟨fun | 217 => 73 | 266 => 77 | n => n, fun | 9 => 9 | 5 => 5 | 3 => 3 | n => n, fun | n => n⟩
theorem Try.lays217 : Go.Proofs.Lays.n217 Try.prog Try.lays217_ren := {
  mixed := by kernel_rfl
  f217 := Try.func73.trans (congrArg some (by kernel_rfl))
  f266 := Try.func77.trans (congrArg some (by kernel_rfl))
  t3 := Try.underlying3
  a3 := Try.isAgg3
  z3 := Try.sizeOf3
  v3 := Try.zeroValue3
  t5 := Try.underlying5
  a5 := Try.isAgg5
  z5 := Try.sizeOf5
  v5 := Try.zeroValue5
  t9 := Try.underlying9
  a9 := Try.isAgg9
  z9 := Try.sizeOf9
  v9 := Try.zeroValue9 }
open Go.RowKit Go.Lib in
/-- internal/stringslite.IndexByte (what strings.IndexByte calls): IT RETURNS 'Lib.indexByte s c'; the world is as it was. (LAID: no walk: one application.) -/
theorem Try.stringslite_IndexByte (s : ByteArray) (c : Int) (w : World) :
    Calls Try.prog 73 #[.string s, .int .u8 c] w fun e w' => e = .returned (.int .i64 (Lib.indexByte s.data.toList c.toNat.toUInt8)) ∧ w' = w := Any.stringslite_IndexByte Try.lays217 s c w
def Try.lays224_ren : Go.Shelf.Ren := ⟨fun | 224 => 75 | n => n, fun | 3 => 3 | n => n, fun | n => n⟩
theorem Try.lays224 : Go.Proofs.Lays.n224 Try.prog Try.lays224_ren := {
  mixed := by kernel_rfl
  f224 := Try.func75.trans (congrArg some (by kernel_rfl))
  t3 := Try.underlying3
  a3 := Try.isAgg3
  z3 := Try.sizeOf3
  v3 := Try.zeroValue3 }
open Go.RowKit Go.Lib in
/-- internal/bytealg.Cutover: "Cutover reports the number of failures of IndexByte we should tolerate before switching over to Index. n is the number of bytes processed so far.": on amd64: (n + 16) / 8. (LAID: no walk: one application.) -/
theorem Try.bytealg_Cutover (n : Int) (h0 : 0 ≤ n) (h1 : n < 4611686018427387904) (w : World) :
    Calls Try.prog 75 #[.int .i64 n] w fun e w' => e = .returned (.int .i64 ((n + 16) / 8)) ∧ w' = w := Any.bytealg_Cutover Try.lays224 n h0 h1 w
def Try.lays314_ren : Go.Shelf.Ren := ⟨fun | 314 => 78 | n => n, fun | 9 => 9 | 51 => 114 | 3 => 3 | 4 => 4 | 5 => 5 | 46 => 104 | n => n, fun | n => n⟩
theorem Try.lays314 : Go.Proofs.Lays.n314 Try.prog Try.lays314_ren := {
  mixed := by kernel_rfl
  f314 := Try.func78.trans (congrArg some (by kernel_rfl))
  t3 := Try.underlying3
  a3 := Try.isAgg3
  z3 := Try.sizeOf3
  v3 := Try.zeroValue3
  t4 := Try.underlying4
  a4 := Try.isAgg4
  z4 := Try.sizeOf4
  v4 := Try.zeroValue4
  t5 := Try.underlying5
  a5 := Try.isAgg5
  z5 := Try.sizeOf5
  v5 := Try.zeroValue5
  t9 := Try.underlying9
  a9 := Try.isAgg9
  z9 := Try.sizeOf9
  v9 := Try.zeroValue9
  t46 := Try.underlying104
  a46 := Try.isAgg104
  z46 := Try.sizeOf104
  v46 := Try.zeroValue104
  t51 := Try.underlying114
  a51 := Try.isAgg114
  z51 := Try.sizeOf114
  v51 := Try.zeroValue114 }
open Go.RowKit Go.Lib in
/-- hashStr: "returns the hash and the appropriate multiplicative factor for use in Rabin-Karp algorithm": THE HASH OF ALL OF sep, AND 16777619 ^ len(sep), both in uint32. (LAID: no walk: one application.) -/
theorem Try.bytealg_hashStr (sep : ByteArray) (hs : sep.size < 4294967281) (w : World) :
    Calls Try.prog 78 #[.string sep] w fun e w' => e = .returned (.tuple #[.int .u32 (RK.H sep.data.toList % 4294967296), .int .u32 (16777619 ^ sep.size % 4294967296)]) ∧ w' = w := Any.bytealg_hashStr Try.lays314 sep hs w
def Try.lays267_ren : Go.Shelf.Ren := ⟨fun | 267 => 76 | 314 => 78 | n => n, fun | 9 => 9 | 3 => 3 | 146 => 115 | 51 => 114 | 4 => 4 | 5 => 5 | 46 => 104 | n => n, fun | n => n⟩
theorem Try.lays267 : Go.Proofs.Lays.n267 Try.prog Try.lays267_ren := {
  mixed := by kernel_rfl
  f267 := Try.func76.trans (congrArg some (by kernel_rfl))
  f314 := Try.func78.trans (congrArg some (by kernel_rfl))
  t3 := Try.underlying3
  a3 := Try.isAgg3
  z3 := Try.sizeOf3
  v3 := Try.zeroValue3
  t4 := Try.underlying4
  a4 := Try.isAgg4
  z4 := Try.sizeOf4
  v4 := Try.zeroValue4
  t5 := Try.underlying5
  a5 := Try.isAgg5
  z5 := Try.sizeOf5
  v5 := Try.zeroValue5
  t9 := Try.underlying9
  a9 := Try.isAgg9
  z9 := Try.sizeOf9
  v9 := Try.zeroValue9
  t46 := Try.underlying104
  a46 := Try.isAgg104
  z46 := Try.sizeOf104
  v46 := Try.zeroValue104
  t51 := Try.underlying114
  a51 := Try.isAgg114
  z51 := Try.sizeOf114
  v51 := Try.zeroValue114
  t146 := Try.underlying115
  a146 := Try.isAgg115
  z146 := Try.sizeOf115
  v146 := Try.zeroValue115 }
open Go.RowKit Go.Lib in
theorem Try.bytealg_IndexRabinKarp (s sep : ByteArray) (h1 : 1 ≤ sep.size) (h2 : sep.size ≤ s.size) (hs : s.size < 4294967281) (w : World) :
    Calls Try.prog 76 #[.string s, .string sep] w fun e w' => e = .returned (.int .i64 (Lib.index s.data.toList sep.data.toList)) ∧ w' = w := Any.bytealg_IndexRabinKarp Try.lays267 s sep h1 h2 hs w
def Try.lays219_ren : Go.Shelf.Ren := ⟨fun | 219 => 72 | 217 => 73 | 225 => 74 | 224 => 75 | 267 => 76 | 266 => 77 | 314 => 78 | n => n, fun | 9 => 9 | 3 => 3 | 4 => 4 | 5 => 5 | 46 => 104 | 146 => 115 | 51 => 114 | n => n, fun | 1 => 0 | n => n⟩
theorem Try.lays219 : Go.Proofs.Lays.n219 Try.prog Try.lays219_ren := {
  mixed := by kernel_rfl
  f217 := Try.func73.trans (congrArg some (by kernel_rfl))
  f219 := Try.func72.trans (congrArg some (by kernel_rfl))
  f224 := Try.func75.trans (congrArg some (by kernel_rfl))
  f225 := Try.func74.trans (congrArg some (by kernel_rfl))
  f266 := Try.func77.trans (congrArg some (by kernel_rfl))
  f267 := Try.func76.trans (congrArg some (by kernel_rfl))
  f314 := Try.func78.trans (congrArg some (by kernel_rfl))
  t3 := Try.underlying3
  a3 := Try.isAgg3
  z3 := Try.sizeOf3
  v3 := Try.zeroValue3
  t4 := Try.underlying4
  a4 := Try.isAgg4
  z4 := Try.sizeOf4
  v4 := Try.zeroValue4
  t5 := Try.underlying5
  a5 := Try.isAgg5
  z5 := Try.sizeOf5
  v5 := Try.zeroValue5
  t9 := Try.underlying9
  a9 := Try.isAgg9
  z9 := Try.sizeOf9
  v9 := Try.zeroValue9
  t46 := Try.underlying104
  a46 := Try.isAgg104
  z46 := Try.sizeOf104
  v46 := Try.zeroValue104
  t51 := Try.underlying114
  a51 := Try.isAgg114
  z51 := Try.sizeOf114
  v51 := Try.zeroValue114
  t146 := Try.underlying115
  a146 := Try.isAgg115
  z146 := Try.sizeOf115
  v146 := Try.zeroValue115
  g1 := by kernel_rfl }
open Go.RowKit Go.Lib in
/-- internal/stringslite.Index (what strings.Index calls) AT A substr OF ONE BYTE c: IT RETURNS 'Lib.indexByte s c'; the world is as it was. (LAID: no walk: one application.) -/
theorem Try.stringslite_Index_one (s : ByteArray) (c : UInt8) (w : World) :
    Calls Try.prog 72 #[.string s, .string ⟨#[c]⟩] w fun e w' => e = .returned (.int .i64 (Lib.indexByte s.data.toList c)) ∧ w' = w := Any.stringslite_Index_one Try.lays219 s c w
open Go.RowKit Go.Lib in
/-- internal/stringslite.Index (what strings.Index calls) AT A substr OF WHATEVER LENGTH: IT RETURNS 'Lib.index s substr'; the world is as it was. 'm': what internal/bytealg.MaxLen holds: whatever. (LAID: no walk: one application.) -/
theorem Try.stringslite_Index (s sub : ByteArray) (m : Int) (w : World) (hs : s.size < 4294967281) (hm : w.cell? ⟨0, 0, none⟩ = some (.int .i64 m)) :
    Calls Try.prog 72 #[.string s, .string sub] w fun e w' => e = .returned (.int .i64 (Lib.index s.data.toList sub.data.toList)) ∧ w' = w := Any.stringslite_Index Try.lays219 s sub m w hs hm
def Try.lays220_ren : Go.Shelf.Ren := ⟨fun | 220 => 70 | 219 => 72 | 217 => 73 | 225 => 74 | 224 => 75 | 267 => 76 | 266 => 77 | 314 => 78 | n => n, fun | 9 => 9 | 4 => 4 | 3 => 3 | 5 => 5 | 46 => 104 | 146 => 115 | 51 => 114 | n => n, fun | 1 => 0 | n => n⟩
theorem Try.lays220 : Go.Proofs.Lays.n220 Try.prog Try.lays220_ren := {
  mixed := by kernel_rfl
  f217 := Try.func73.trans (congrArg some (by kernel_rfl))
  f219 := Try.func72.trans (congrArg some (by kernel_rfl))
  f220 := Try.func70.trans (congrArg some (by kernel_rfl))
  f224 := Try.func75.trans (congrArg some (by kernel_rfl))
  f225 := Try.func74.trans (congrArg some (by kernel_rfl))
  f266 := Try.func77.trans (congrArg some (by kernel_rfl))
  f267 := Try.func76.trans (congrArg some (by kernel_rfl))
  f314 := Try.func78.trans (congrArg some (by kernel_rfl))
  t3 := Try.underlying3
  a3 := Try.isAgg3
  z3 := Try.sizeOf3
  v3 := Try.zeroValue3
  t4 := Try.underlying4
  a4 := Try.isAgg4
  z4 := Try.sizeOf4
  v4 := Try.zeroValue4
  t5 := Try.underlying5
  a5 := Try.isAgg5
  z5 := Try.sizeOf5
  v5 := Try.zeroValue5
  t9 := Try.underlying9
  a9 := Try.isAgg9
  z9 := Try.sizeOf9
  v9 := Try.zeroValue9
  t46 := Try.underlying104
  a46 := Try.isAgg104
  z46 := Try.sizeOf104
  v46 := Try.zeroValue104
  t51 := Try.underlying114
  a51 := Try.isAgg114
  z51 := Try.sizeOf114
  v51 := Try.zeroValue114
  t146 := Try.underlying115
  a146 := Try.isAgg115
  z146 := Try.sizeOf115
  v146 := Try.zeroValue115
  g1 := by kernel_rfl }
open Go.RowKit Go.Lib in
/-- internal/stringslite.Cut (what strings.Cut calls): IT RETURNS 'Lib.cut s sep'; the world is as it was but for the count of draws. (LAID: no walk: one application.) -/
theorem Try.stringslite_Cut (s sep : ByteArray) (m : Int) (w : World) (hs : s.size < 4294967281) (hm : w.cell? ⟨0, 0, none⟩ = some (.int .i64 m)) :
    Calls Try.prog 70 #[.string s, .string sep] w fun e w' => e = .returned (.tuple #[.string ⟨(Lib.cut s.data.toList sep.data.toList).1.toArray⟩, .string ⟨(Lib.cut s.data.toList sep.data.toList).2.1.toArray⟩, .bool (Lib.cut s.data.toList sep.data.toList).2.2]) ∧ ∃ n, w' = w.drewN n := Any.stringslite_Cut Try.lays220 s sep m w hs hm
def Try.lays145_ren : Go.Shelf.Ren := ⟨fun | 145 => 66 | 220 => 70 | 219 => 72 | 217 => 73 | 225 => 74 | 224 => 75 | 267 => 76 | 266 => 77 | 314 => 78 | n => n, fun | 9 => 9 | 4 => 4 | 59 => 107 | 3 => 3 | 5 => 5 | 46 => 104 | 146 => 115 | 51 => 114 | n => n, fun | 1 => 0 | n => n⟩
theorem Try.lays145 : Go.Proofs.Lays.n145 Try.prog Try.lays145_ren := {
  mixed := by kernel_rfl
  f145 := Try.func66.trans (congrArg some (by kernel_rfl))
  f217 := Try.func73.trans (congrArg some (by kernel_rfl))
  f219 := Try.func72.trans (congrArg some (by kernel_rfl))
  f220 := Try.func70.trans (congrArg some (by kernel_rfl))
  f224 := Try.func75.trans (congrArg some (by kernel_rfl))
  f225 := Try.func74.trans (congrArg some (by kernel_rfl))
  f266 := Try.func77.trans (congrArg some (by kernel_rfl))
  f267 := Try.func76.trans (congrArg some (by kernel_rfl))
  f314 := Try.func78.trans (congrArg some (by kernel_rfl))
  t3 := Try.underlying3
  a3 := Try.isAgg3
  z3 := Try.sizeOf3
  v3 := Try.zeroValue3
  t4 := Try.underlying4
  a4 := Try.isAgg4
  z4 := Try.sizeOf4
  v4 := Try.zeroValue4
  t5 := Try.underlying5
  a5 := Try.isAgg5
  z5 := Try.sizeOf5
  v5 := Try.zeroValue5
  t9 := Try.underlying9
  a9 := Try.isAgg9
  z9 := Try.sizeOf9
  v9 := Try.zeroValue9
  t46 := Try.underlying104
  a46 := Try.isAgg104
  z46 := Try.sizeOf104
  v46 := Try.zeroValue104
  t51 := Try.underlying114
  a51 := Try.isAgg114
  z51 := Try.sizeOf114
  v51 := Try.zeroValue114
  t59 := Try.underlying107
  a59 := Try.isAgg107
  z59 := Try.sizeOf107
  v59 := Try.zeroValue107
  t146 := Try.underlying115
  a146 := Try.isAgg115
  z146 := Try.sizeOf115
  v146 := Try.zeroValue115
  g1 := by kernel_rfl }
open Go.RowKit Go.Lib in
/-- strings.Cut: "Cut slices s around the first instance of sep, returning the text before and after sep. The found result reports whether sep appears in s. If sep does not appear in s, cut returns s, "", false.": IT RETURNS 'Lib.cut s sep'; the world is as it was but for the count of draws. (LAID: no walk: one application.) -/
theorem Try.strings_Cut (s sep : ByteArray) (m : Int) (w : World) (hs : s.size < 4294967281) (hm : w.cell? ⟨0, 0, none⟩ = some (.int .i64 m)) :
    Calls Try.prog 66 #[.string s, .string sep] w fun e w' => e = .returned (.tuple #[.string ⟨(Lib.cut s.data.toList sep.data.toList).1.toArray⟩, .string ⟨(Lib.cut s.data.toList sep.data.toList).2.1.toArray⟩, .bool (Lib.cut s.data.toList sep.data.toList).2.2]) ∧ ∃ n, w' = w.drewN n := Any.strings_Cut Try.lays145 s sep m w hs hm
def Try.laysM219_ren : Go.Shelf.Ren := ⟨fun | 219 => 72 | 217 => 73 | 225 => 74 | 224 => 75 | 267 => 76 | 266 => 77 | 314 => 78 | n => n, fun | 9 => 9 | 3 => 3 | 4 => 4 | 5 => 5 | 46 => 104 | 146 => 115 | 51 => 114 | n => n, fun | 1 => 0 | n => n⟩
theorem Try.laysM219 : Go.Proofs.LaysM.n219 Try.prog Try.laysM219_ren := {
  mixed := by kernel_rfl
  f217 := Try.func73.trans (congrArg some (by kernel_rfl))
  f219 := Try.func72.trans (congrArg some (by kernel_rfl))
  f224 := Try.func75.trans (congrArg some (by kernel_rfl))
  f225 := Try.func74.trans (congrArg some (by kernel_rfl))
  f266 := Try.func77.trans (congrArg some (by kernel_rfl))
  f267 := Try.func76.trans (congrArg some (by kernel_rfl))
  f314 := Try.func78.trans (congrArg some (by kernel_rfl))
  t3 := Try.underlying3
  a3 := Try.isAgg3
  z3 := Try.sizeOf3
  v3 := Try.zeroValue3
  t4 := Try.underlying4
  a4 := Try.isAgg4
  z4 := Try.sizeOf4
  v4 := Try.zeroValue4
  t5 := Try.underlying5
  a5 := Try.isAgg5
  z5 := Try.sizeOf5
  v5 := Try.zeroValue5
  t9 := Try.underlying9
  a9 := Try.isAgg9
  z9 := Try.sizeOf9
  v9 := Try.zeroValue9
  t46 := Try.underlying104
  a46 := Try.isAgg104
  z46 := Try.sizeOf104
  v46 := Try.zeroValue104
  t51 := Try.underlying114
  a51 := Try.isAgg114
  z51 := Try.sizeOf114
  v51 := Try.zeroValue114
  t146 := Try.underlying115
  a146 := Try.isAgg115
  z146 := Try.sizeOf115
  v146 := Try.zeroValue115
  g1 := by kernel_rfl
  i3 := by kernel_rfl
  i4 := by kernel_rfl
  i5 := by kernel_rfl
  i9 := by kernel_rfl
  i46 := by kernel_rfl
  i51 := by kernel_rfl
  i146 := by kernel_rfl
  m1 := by kernel_rfl
  s1_3 := fun w h => Go.Proofs.cell_of_shapedOpen_int (zero := #[.int .i64 0]) (t := 3) h (of_decide_eq_true (by kernel_rfl)) (by kernel_rfl) rfl (by kernel_rfl) (by kernel_rfl) Try.underlying3 }
open Go.RowKit Go.Lib in
theorem Try.stringslite_Index_shaped (s sub : ByteArray) (w : World) (h : w.ShapedOpen Try.prog) (hs : s.size < 4294967281) :
    Calls Try.prog 72 #[.string s, .string sub] w fun e w' => e = .returned (.int .i64 (Lib.index s.data.toList sub.data.toList)) ∧ w' = w := Any.stringslite_Index_shaped Try.laysM219 s sub w h hs
def Try.laysM220_ren : Go.Shelf.Ren := ⟨fun | 220 => 70 | 219 => 72 | 217 => 73 | 225 => 74 | 224 => 75 | 267 => 76 | 266 => 77 | 314 => 78 | n => n, fun | 9 => 9 | 4 => 4 | 3 => 3 | 5 => 5 | 46 => 104 | 146 => 115 | 51 => 114 | n => n, fun | 1 => 0 | n => n⟩
theorem Try.laysM220 : Go.Proofs.LaysM.n220 Try.prog Try.laysM220_ren := {
  mixed := by kernel_rfl
  f217 := Try.func73.trans (congrArg some (by kernel_rfl))
  f219 := Try.func72.trans (congrArg some (by kernel_rfl))
  f220 := Try.func70.trans (congrArg some (by kernel_rfl))
  f224 := Try.func75.trans (congrArg some (by kernel_rfl))
  f225 := Try.func74.trans (congrArg some (by kernel_rfl))
  f266 := Try.func77.trans (congrArg some (by kernel_rfl))
  f267 := Try.func76.trans (congrArg some (by kernel_rfl))
  f314 := Try.func78.trans (congrArg some (by kernel_rfl))
  t3 := Try.underlying3
  a3 := Try.isAgg3
  z3 := Try.sizeOf3
  v3 := Try.zeroValue3
  t4 := Try.underlying4
  a4 := Try.isAgg4
  z4 := Try.sizeOf4
  v4 := Try.zeroValue4
  t5 := Try.underlying5
  a5 := Try.isAgg5
  z5 := Try.sizeOf5
  v5 := Try.zeroValue5
  t9 := Try.underlying9
  a9 := Try.isAgg9
  z9 := Try.sizeOf9
  v9 := Try.zeroValue9
  t46 := Try.underlying104
  a46 := Try.isAgg104
  z46 := Try.sizeOf104
  v46 := Try.zeroValue104
  t51 := Try.underlying114
  a51 := Try.isAgg114
  z51 := Try.sizeOf114
  v51 := Try.zeroValue114
  t146 := Try.underlying115
  a146 := Try.isAgg115
  z146 := Try.sizeOf115
  v146 := Try.zeroValue115
  g1 := by kernel_rfl
  i3 := by kernel_rfl
  i4 := by kernel_rfl
  i5 := by kernel_rfl
  i9 := by kernel_rfl
  i46 := by kernel_rfl
  i51 := by kernel_rfl
  i146 := by kernel_rfl
  m1 := by kernel_rfl
  s1_3 := fun w h => Go.Proofs.cell_of_shapedOpen_int (zero := #[.int .i64 0]) (t := 3) h (of_decide_eq_true (by kernel_rfl)) (by kernel_rfl) rfl (by kernel_rfl) (by kernel_rfl) Try.underlying3 }
open Go.RowKit Go.Lib in
theorem Try.stringslite_Cut_shaped (s sep : ByteArray) (w : World) (h : w.ShapedOpen Try.prog) (hs : s.size < 4294967281) :
    Calls Try.prog 70 #[.string s, .string sep] w fun e w' => e = .returned (.tuple #[.string ⟨(Lib.cut s.data.toList sep.data.toList).1.toArray⟩, .string ⟨(Lib.cut s.data.toList sep.data.toList).2.1.toArray⟩, .bool (Lib.cut s.data.toList sep.data.toList).2.2]) ∧ ∃ n, w' = w.drewN n := Any.stringslite_Cut_shaped Try.laysM220 s sep w h hs
def Try.laysM145_ren : Go.Shelf.Ren := ⟨fun | 145 => 66 | 220 => 70 | 219 => 72 | 217 => 73 | 225 => 74 | 224 => 75 | 267 => 76 | 266 => 77 | 314 => 78 | n => n, fun | 9 => 9 | 4 => 4 | 59 => 107 | 3 => 3 | 5 => 5 | 46 => 104 | 146 => 115 | 51 => 114 | n => n, fun | 1 => 0 | n => n⟩
theorem Try.laysM145 : Go.Proofs.LaysM.n145 Try.prog Try.laysM145_ren := {
  mixed := by kernel_rfl
  f145 := Try.func66.trans (congrArg some (by kernel_rfl))
  f217 := Try.func73.trans (congrArg some (by kernel_rfl))
  f219 := Try.func72.trans (congrArg some (by kernel_rfl))
  f220 := Try.func70.trans (congrArg some (by kernel_rfl))
  f224 := Try.func75.trans (congrArg some (by kernel_rfl))
  f225 := Try.func74.trans (congrArg some (by kernel_rfl))
  f266 := Try.func77.trans (congrArg some (by kernel_rfl))
  f267 := Try.func76.trans (congrArg some (by kernel_rfl))
  f314 := Try.func78.trans (congrArg some (by kernel_rfl))
  t3 := Try.underlying3
  a3 := Try.isAgg3
  z3 := Try.sizeOf3
  v3 := Try.zeroValue3
  t4 := Try.underlying4
  a4 := Try.isAgg4
  z4 := Try.sizeOf4
  v4 := Try.zeroValue4
  t5 := Try.underlying5
  a5 := Try.isAgg5
  z5 := Try.sizeOf5
  v5 := Try.zeroValue5
  t9 := Try.underlying9
  a9 := Try.isAgg9
  z9 := Try.sizeOf9
  v9 := Try.zeroValue9
  t46 := Try.underlying104
  a46 := Try.isAgg104
  z46 := Try.sizeOf104
  v46 := Try.zeroValue104
  t51 := Try.underlying114
  a51 := Try.isAgg114
  z51 := Try.sizeOf114
  v51 := Try.zeroValue114
  t59 := Try.underlying107
  a59 := Try.isAgg107
  z59 := Try.sizeOf107
  v59 := Try.zeroValue107
  t146 := Try.underlying115
  a146 := Try.isAgg115
  z146 := Try.sizeOf115
  v146 := Try.zeroValue115
  g1 := by kernel_rfl
  i3 := by kernel_rfl
  i4 := by kernel_rfl
  i5 := by kernel_rfl
  i9 := by kernel_rfl
  i46 := by kernel_rfl
  i51 := by kernel_rfl
  i59 := by kernel_rfl
  i146 := by kernel_rfl
  m1 := by kernel_rfl
  s1_3 := fun w h => Go.Proofs.cell_of_shapedOpen_int (zero := #[.int .i64 0]) (t := 3) h (of_decide_eq_true (by kernel_rfl)) (by kernel_rfl) rfl (by kernel_rfl) (by kernel_rfl) Try.underlying3 }
open Go.RowKit Go.Lib in
theorem Try.strings_Cut_shaped (s sep : ByteArray) (w : World) (h : w.ShapedOpen Try.prog) (hs : s.size < 4294967281) :
    Calls Try.prog 66 #[.string s, .string sep] w fun e w' => e = .returned (.tuple #[.string ⟨(Lib.cut s.data.toList sep.data.toList).1.toArray⟩, .string ⟨(Lib.cut s.data.toList sep.data.toList).2.1.toArray⟩, .bool (Lib.cut s.data.toList sep.data.toList).2.2]) ∧ ∃ n, w' = w.drewN n := Any.strings_Cut_shaped Try.laysM145 s sep w h hs
def Try.lays206_ren : Go.Shelf.Ren := ⟨fun | 206 => 69 | n => n, fun | 9 => 9 | 4 => 4 | 3 => 3 | n => n, fun | n => n⟩
theorem Try.lays206 : Go.Proofs.Lays.n206 Try.prog Try.lays206_ren := {
  mixed := by kernel_rfl
  f206 := Try.func69.trans (congrArg some (by kernel_rfl))
  t3 := Try.underlying3
  a3 := Try.isAgg3
  z3 := Try.sizeOf3
  v3 := Try.zeroValue3
  t4 := Try.underlying4
  a4 := Try.isAgg4
  z4 := Try.sizeOf4
  v4 := Try.zeroValue4
  t9 := Try.underlying9
  a9 := Try.isAgg9
  z9 := Try.sizeOf9
  v9 := Try.zeroValue9 }
open Go.RowKit Go.Lib in
/-- internal/stringslite.HasPrefix (what strings.HasPrefix calls). (LAID: no walk: one application.) -/
theorem Try.stringslite_HasPrefix (s p : ByteArray) (w : World) :
    Calls Try.prog 69 #[.string s, .string p] w fun e w' => e = .returned (.bool (Lib.hasPrefix s.data.toList p.data.toList)) ∧ w' = w := Any.stringslite_HasPrefix Try.lays206 s p w
def Try.lays99_ren : Go.Shelf.Ren := ⟨fun | 99 => 64 | 206 => 69 | n => n, fun | 9 => 9 | 4 => 4 | 3 => 3 | n => n, fun | n => n⟩
theorem Try.lays99 : Go.Proofs.Lays.n99 Try.prog Try.lays99_ren := {
  mixed := by kernel_rfl
  f99 := Try.func64.trans (congrArg some (by kernel_rfl))
  f206 := Try.func69.trans (congrArg some (by kernel_rfl))
  t3 := Try.underlying3
  a3 := Try.isAgg3
  z3 := Try.sizeOf3
  v3 := Try.zeroValue3
  t4 := Try.underlying4
  a4 := Try.isAgg4
  z4 := Try.sizeOf4
  v4 := Try.zeroValue4
  t9 := Try.underlying9
  a9 := Try.isAgg9
  z9 := Try.sizeOf9
  v9 := Try.zeroValue9 }
open Go.RowKit Go.Lib in
/-- strings.HasPrefix: "HasPrefix reports whether the string s begins with prefix.": IT RETURNS 'Lib.hasPrefix s prefix'; the world is as it was. (LAID: no walk: one application.) -/
theorem Try.strings_HasPrefix (s p : ByteArray) (w : World) :
    Calls Try.prog 64 #[.string s, .string p] w fun e w' => e = .returned (.bool (Lib.hasPrefix s.data.toList p.data.toList)) ∧ w' = w := Any.strings_HasPrefix Try.lays99 s p w
def Try.lays207_ren : Go.Shelf.Ren := ⟨fun | 207 => 67 | n => n, fun | 9 => 9 | 4 => 4 | 3 => 3 | n => n, fun | n => n⟩
theorem Try.lays207 : Go.Proofs.Lays.n207 Try.prog Try.lays207_ren := {
  mixed := by kernel_rfl
  f207 := Try.func67.trans (congrArg some (by kernel_rfl))
  t3 := Try.underlying3
  a3 := Try.isAgg3
  z3 := Try.sizeOf3
  v3 := Try.zeroValue3
  t4 := Try.underlying4
  a4 := Try.isAgg4
  z4 := Try.sizeOf4
  v4 := Try.zeroValue4
  t9 := Try.underlying9
  a9 := Try.isAgg9
  z9 := Try.sizeOf9
  v9 := Try.zeroValue9 }
open Go.RowKit Go.Lib in
/-- internal/stringslite.HasSuffix (what strings.HasSuffix calls). (LAID: no walk: one application.) -/
theorem Try.stringslite_HasSuffix (s p : ByteArray) (w : World) (hs : s.size ≤ 9223372036854775807) :
    Calls Try.prog 67 #[.string s, .string p] w fun e w' => e = .returned (.bool (Lib.hasSuffix s.data.toList p.data.toList)) ∧ w' = w := Any.stringslite_HasSuffix Try.lays207 s p w hs
def Try.lays100_ren : Go.Shelf.Ren := ⟨fun | 100 => 59 | 207 => 67 | n => n, fun | 9 => 9 | 4 => 4 | 3 => 3 | n => n, fun | n => n⟩
theorem Try.lays100 : Go.Proofs.Lays.n100 Try.prog Try.lays100_ren := {
  mixed := by kernel_rfl
  f100 := Try.func59.trans (congrArg some (by kernel_rfl))
  f207 := Try.func67.trans (congrArg some (by kernel_rfl))
  t3 := Try.underlying3
  a3 := Try.isAgg3
  z3 := Try.sizeOf3
  v3 := Try.zeroValue3
  t4 := Try.underlying4
  a4 := Try.isAgg4
  z4 := Try.sizeOf4
  v4 := Try.zeroValue4
  t9 := Try.underlying9
  a9 := Try.isAgg9
  z9 := Try.sizeOf9
  v9 := Try.zeroValue9 }
open Go.RowKit Go.Lib in
/-- strings.HasSuffix: "HasSuffix reports whether the string s ends with suffix.": IT RETURNS 'Lib.hasSuffix s suffix'; the world is as it was. ('hs': no Go string is longer: a caller has it of every string that it was handed.) (LAID: no walk: one application.) -/
theorem Try.strings_HasSuffix (s p : ByteArray) (w : World) (hs : s.size ≤ 9223372036854775807) :
    Calls Try.prog 59 #[.string s, .string p] w fun e w' => e = .returned (.bool (Lib.hasSuffix s.data.toList p.data.toList)) ∧ w' = w := Any.strings_HasSuffix Try.lays100 s p w hs
def Try.laysNm216_ren : Go.Shelf.Ren := ⟨fun | 16 => 56 | n => n, fun | 24 => 75 | 9 => 9 | 4 => 4 | n => n, fun | n => n⟩
theorem Try.laysNm216 : Go.Proofs.Lays2.n16 Try.prog Try.laysNm216_ren := {
  mixed := by kernel_rfl
  f16 := Try.func56.trans (congrArg some (by kernel_rfl))
  t4 := Try.underlying4
  a4 := Try.isAgg4
  z4 := Try.sizeOf4
  v4 := Try.zeroValue4
  t9 := Try.underlying9
  a9 := Try.isAgg9
  z9 := Try.sizeOf9
  v9 := Try.zeroValue9
  t24 := Try.underlying75
  a24 := Try.isAgg75
  z24 := Try.sizeOf75
  v24 := Try.zeroValue75
  i9 := by kernel_rfl }
open Go.RowKit Go.Lib in
/-- slices.Clone at []string: "Clone returns a copy of the slice. The elements are copied using assignment, so this is a shallow clone. The result may have additional unused capacity. The result preserves the nilness of s.": OF A SLICE THAT IS NOT nil IT RETURNS A SLICE THAT IS NOT nil, OF THE SAME ELEMENTS, IN MEMORY OF THE CALL's OWN: in the how-to's words (6f): 'w'.ownsRow B e 1 v' n cells': v' begins at the head of a row among the blocks from B on (B: the heap's size at the call), not frozen, whose first cells are the elements · 'Below B w w'': below B all is as it was. The capacity is whatever the run-time gives. 'zs': what the cells behind the slice's address hold; 'zs.take n': its elements. (LAID: no walk: one application.) -/
theorem Try.slices_Clone_string (b off n c : Nat) (zs : List ByteArray) (w : World) (hz : n ≤ zs.length) (hbig : n * 16 ≤ 140737488355328) (hc : ∀ j, j < zs.length → w.cell? ⟨b, off + j, none⟩ = some (.string (zs.getD j ByteArray.empty))) :
    Calls Try.prog 56 #[.slice (some ⟨b, off, none⟩) n c] w fun e w' => ∃ v', e = .returned v' ∧ w'.ownsRow w.heap.size 9 1 v' n ((zs.take n).map (Value.string)) ∧ v' ≠ .slice none 0 0 ∧ Below w.heap.size w w' := Any.slices_Clone_string Try.laysNm216 b off n c zs w hz hbig hc
open Go.RowKit Go.Lib in
/-- The same at nil: nil comes back; the world is as it was. (LAID: no walk: one application.) -/
theorem Try.slices_Clone_string_nil (n c : Nat) (w : World) :
    Calls Try.prog 56 #[.slice none n c] w fun e w' => e = .returned (.slice none 0 0) ∧ w' = w := Any.slices_Clone_string_nil Try.laysNm216 n c w
open Go.RowKit Go.Lib in
/-- The same at a slice of length 0 that is not nil, WHATEVER ITS ADDRESS (no cell is asked for): a slice that is not nil and owns nothing comes back. (LAID: no walk: one application.) -/
theorem Try.slices_Clone_string_zero (a : Addr) (c : Nat) (w : World) :
    Calls Try.prog 56 #[.slice (some a) 0 c] w fun e w' => ∃ v', e = .returned v' ∧ w'.ownsRow w.heap.size 9 1 v' 0 [] ∧ v' ≠ .slice none 0 0 ∧ Below w.heap.size w w' := Any.slices_Clone_string_zero Try.laysNm216 a c w
def Try.laysNm237_ren : Go.Shelf.Ren := ⟨fun | 37 => 62 | n => n, fun | 3 => 3 | 4 => 4 | n => n, fun | n => n⟩
theorem Try.laysNm237 : Go.Proofs.Lays2.n37 Try.prog Try.laysNm237_ren := {
  mixed := by kernel_rfl
  f37 := Try.func62.trans (congrArg some (by kernel_rfl))
  t3 := Try.underlying3
  a3 := Try.isAgg3
  z3 := Try.sizeOf3
  v3 := Try.zeroValue3
  t4 := Try.underlying4
  a4 := Try.isAgg4
  z4 := Try.sizeOf4
  v4 := Try.zeroValue4 }
open Go.RowKit Go.Lib in
/-- cmp.isNaN[int]: 'x != x': false. (LAID: no walk: one application.) -/
theorem Try.cmp_isNaN_int2 (x : Int) (w : World) :
    Calls Try.prog 62 #[.int .i64 x] w fun e w' => e = .returned (.bool false) ∧ w' = w := Any.cmp_isNaN_int2 Try.laysNm237 x w
end Go.Proofs

/- Walks: the search for a number, by halves. -/
set_option linter.unusedVariables false
set_option linter.unusedSimpArgs false
namespace Go.Proofs.Ytpeghnhaekebdaa
open Go.RowKit

theorem holdN_any (x : Nd) (n : Int) (w : World) :
    Calls Try.prog 48 #[.agg (ndC x), .int .i64 n] w fun e w' => e = .returned (.int .i64 (Lib.compareInt x.ino n)) ∧ Below w.heap.size w w' := by
  go_enter Try.func48, Try.ntmps48
  have hb : Below w.heap.size w (w.alloc (.cells (ndC x) 33)) := (Below.refl _ w).alloc (Nat.le_refl _) _
  go_wp2_with fail; refine (Try.cmp_Compare_int _ _ _).mono ?_; rintro e w' ⟨rfl, rfl⟩
  go_wp2
  go_ret
  exact ⟨rfl, hb⟩

theorem cmpI_lt (x y : Int) : decide (Lib.compareInt x y < 0) = decide (x < y) := by
  unfold Lib.compareInt; split
  · simp [*]
  · split <;> simp [*]
theorem cmpI_eq (x y : Int) : (Lib.compareInt x y == 0) = (x == y) := by
  unfold Lib.compareInt; split
  · have : x ≠ y := by omega
    simp [this]
  · split
    · have : x ≠ y := by omega
      simp [this]
    · have : x = y := by omega
      simp [this]

set_option maxHeartbeats 2000000 in
theorem halvesN_any (l : List Nd) (n : Int) (v : Value) (w : World) (hv : Nds w v l) (hs : riseP l) (hl : l.length ≤ 1000000) :
    Calls Try.prog 47 #[v, .int .i64 n, .func (.func 48) #[] #[]] w fun e w' =>
      ∃ lo : Nat, e = .returned (.tuple #[.int .i64 lo, .bool (hasN l n)]) ∧ SrchN l n lo ∧ Below w.heap.size w w' := by
  obtain ⟨a, ca, rfl, hc, hm, _, _, HA0⟩ := hv
  unfold maxLen at hm
  have HA := Lib.hid HA0
  have HS := Lib.hid hs
  clear HA0 hs
  go_enter Try.func47, Try.ntmps47
  go_wp2
  go_loopg [9, 10] l.length (fun g s9 s10 wr => ∃ lo hi : Nat, s9 = .int .i64 lo ∧ s10 = .int .i64 hi ∧ lo ≤ hi ∧ hi ≤ l.length ∧ hi - lo ≤ g ∧ Below w.heap.size w wr ∧
    Aside ((∀ t (ht : t < l.length), t < lo → l[t].ino < n) ∧ (∀ t (ht : t < l.length), hi ≤ t → n ≤ l[t].ino)))
  case atStart => exact ⟨0, l.length, rfl, rfl, Nat.zero_le _, Nat.le_refl _, by omega, Below.refl _ _, ⟨fun t ht h => by omega, fun t ht h => by omega⟩⟩
  case round =>
    obtain ⟨lo, hi, rfl, rfl, hlh, hin, hg, hbw, I⟩ := hrel
    by_cases hlt : lo < hi
    · obtain ⟨b, o, rfl, hb, hcl⟩ := HA.out (by omega)
      have hmid : (lo + hi) / 2 < l.length := by omega
      obtain ⟨c1, c2, c3, c4, c5, c6⟩ := (hcl _ hmid).below hbw hb
      clear hcl
      generalize hy : l[(lo + hi) / 2] = y at c1 c2 c3 c4 c5 c6
      have Y := Lib.hid hy
      clear hy
      have CM := Lib.hid (cmpI_lt y.ino n)
      go_wp2_with fail
      refine (holdN_any y n _).mono ?_
      rintro e w2 ⟨rfl, b2⟩
      replace hbw := hbw.trans (b2.mono hbw.size)
      by_cases hl1 : y.ino < n
      · have hcm : decide (Lib.compareInt y.ino n < 0) = true := CM.out.trans (decide_eq_true hl1)
        have I2 := Lib.hid (show (∀ t (ht : t < l.length), t < (lo + hi) / 2 + 1 → l[t].ino < n) ∧ (∀ t (ht : t < l.length), hi ≤ t → n ≤ l[t].ino) from ⟨fun t ht h => by
          have := rise_upto HS.out hmid (a := t) (by omega); rw [Y.out] at this; omega, I.out.2⟩)
        clear hl1
        go_wp2
        go_roundg (hi - ((lo + hi) / 2 + 1))
        case measure => omega
        case rel => exact ⟨(lo + hi) / 2 + 1, hi, by rw [show ((lo : Int) + (hi : Int)) / 2 + 1 = (((lo + hi) / 2 + 1 : Nat) : Int) by omega], rfl, by omega, hin, Nat.le_refl _, hbw, I2.out⟩
      · have hcm : decide (Lib.compareInt y.ino n < 0) = false := CM.out.trans (decide_eq_false hl1)
        have I2 := Lib.hid (show (∀ t (ht : t < l.length), t < lo → l[t].ino < n) ∧ (∀ t (ht : t < l.length), (lo + hi) / 2 ≤ t → n ≤ l[t].ino) from ⟨I.out.1, fun t ht h => by
          have := rise_upto HS.out ht (a := (lo + hi) / 2) h; rw [Y.out] at this; omega⟩)
        clear hl1
        go_wp2
        go_roundg ((lo + hi) / 2 - lo)
        case measure => omega
        case rel => exact ⟨lo, (lo + hi) / 2, rfl, by rw [show ((lo : Int) + (hi : Int)) / 2 = (((lo + hi) / 2 : Nat) : Int) by omega], by omega, by omega, Nat.le_refl _, hbw, I2.out⟩
    · obtain rfl : hi = lo := by omega
      have SE := Lib.hid (srchN_end HS.out hin I.out.1 I.out.2)
      by_cases hn : hi < l.length
      · obtain ⟨b, o, rfl, hb, hcl⟩ := HA.out (by omega)
        obtain ⟨c1, c2, c3, c4, c5, c6⟩ := (hcl _ hn).below hbw hb
        clear hcl
        have SH : Hid (hasN l n = (l[hi].ino == n)) := by (show _ = _); rw [SE.out.2, dif_pos hn]
        generalize hy : l[hi] = y at c1 c2 c3 c4 c5 c6 SH
        clear hy
        have CM := Lib.hid (cmpI_eq y.ino n)
        go_wp2_with fail
        refine (holdN_any y n _).mono ?_
        rintro e w2 ⟨rfl, b2⟩
        replace hbw := hbw.trans (b2.mono hbw.size)
        go_wp2
        go_ret2
        exact ⟨hi, by rw [SH.out, ← CM.out]; rfl, SE.out.1, hbw⟩
      · have SH : Hid (hasN l n = false) := by (show _ = _); rw [SE.out.2, dif_neg hn]
        go_wp2
        go_ret2
        exact ⟨hi, by rw [SH.out]; rfl, SE.out.1, hbw⟩

theorem searchN_any (l : List Nd) (n : Int) (v : Value) (w : World) (hv : Nds w v l) (hs : riseP l) (hl : l.length ≤ 1000000) :
    Calls Try.prog 35 #[v, .int .i64 n] w fun e w' =>
      ∃ lo : Nat, e = .returned (.tuple #[.int .i64 lo, .bool (hasN l n)]) ∧ SrchN l n lo ∧ Below w.heap.size w w' := by
  obtain ⟨a, ca, rfl, hc, hm, HA0⟩ := id hv
  clear HA0
  go_enter Try.func35, Try.ntmps35
  go_wp2_with fail; refine (halvesN_any l n _ _ hv hs hl).mono ?_; rintro e w1 ⟨lo, rfl, hS, hb⟩
  go_wp2
  go_ret2
  exact ⟨lo, rfl, hS, hb⟩
end Go.Proofs.Ytpeghnhaekebdaa

/- Walks: slices.Grow from nil, slices.Concat. -/
set_option linter.unusedVariables false
set_option linter.unusedSimpArgs false
namespace Go.Proofs.Ytpeghnhaekebdaa
open Go.RowKit

theorem infoN : (Try.prog.info? 33).map (fun i => (i.zero, i.size, i.bytes)) = some (some (.agg #[.int .i64 0, .int .i64 0, .int .i64 0, .string ⟨#[]⟩, .int .i64 0, .slice none 0 0]), 6, 72) := by kernel_rfl

/-- 'append(s, x...)' onto what is the call's own, whatever slice x is. -/
theorem wpList_append_any {P : Program} {w : World} {ops : Array Oper} {rest : List Oper} {o : Oper} {a : Act} {Q : Exit → Act → World → Prop} (hgd : o.guard = none) (s x : Operand) (t e : TypeId)
    (ho : o.op = .call { callee := .builtin .append, args := #[s, x], argTypes := #[t, t] })
    {i : TypeInfo} {z : Value} {size bytes : Nat} (ht : P.underlying t = some (.slice e)) (hi : P.info? e = some i) (hz : i.zero = some z)
    (hsize : i.size = size) (hby : i.bytes = bytes) (hzs : z.cells.size = size) (hsz : 0 < size) (hbs : bytes ≤ 128)
    (base : Nat) {v : Value} {n : Nat} {xs : List Value} (ao : Option Addr) (m c : Nat) (news : List Value) (hs : a.eval s = v) (hx : a.eval x = .slice ao m c) (hown : w.ownsRow base e size v n xs) (hnone : ao = none → m = 0 ∧ c = 0)
    (hm : news.length = m * size) (hc : ∀ ad, ao = some ad → ∀ j u, news[j]? = some u → w.cell? (ad.add j) = some u) (h1 : ∀ u ∈ news, u.oneCell' = true) (hb : n + m ≤ 1099511627776) (hbase : base ≤ w.heap.size)
    (hK : ∀ v' w', w'.ownsRow base e size v' (n + m) (xs ++ news) → Below base w w' → wpList P ops Q rest (a.put o.dst v') w') :
    wpList P ops Q (o :: rest) a w := by
  cases ao with
  | some ad =>
    refine wpList_append_own _ hgd s x t ho base e i z size bytes ht hi hz hsize hby hzs hsz v n xs hs hown ad m c news hx hm (hc ad rfl) h1 (by unfold maxLen; omega) ?_ hbase ?_
    · calc (n + m) * bytes ≤ 1099511627776 * 128 := Nat.mul_le_mul hb hbs
        _ ≤ 140737488355328 := by decide
    · intro v' w' h2 h3 _
      exact hK v' w' h2 (own_below hown h3 hbase)
  | none =>
    obtain ⟨rfl, rfl⟩ := hnone rfl
    have hnews : news = [] := List.eq_nil_of_length_eq_zero (by simpa using hm)
    subst hnews
    refine wpList_plain hgd fun K hK' => ?_
    have hrun := run_append_owned_none (P := P) w base t o.type e i size ht hi _ n xs hown
    unfold Oper.wp
    simp [execOp, ho, resolve, invoke, builtin, hs, hx, hrun, Result.andThen]
    exact hK' _ _ (by simpa using hK v w (by simpa using hown) (Below.refl _ _))

/-- The same as one step of a region that draws its order. -/
theorem step_append_any {P : Program} {w : World} {ops : Array Oper} {o : Oper} {a : Act} {K : Act → World → Prop} {Q : Exit → Act → World → Prop} {E : Prop} (hgd : o.guard = none) (s x : Operand) (t e : TypeId)
    (ho : o.op = .call { callee := .builtin .append, args := #[s, x], argTypes := #[t, t] })
    {i : TypeInfo} {z : Value} {size bytes : Nat} (ht : P.underlying t = some (.slice e)) (hi : P.info? e = some i) (hz : i.zero = some z)
    (hsize : i.size = size) (hby : i.bytes = bytes) (hzs : z.cells.size = size) (hsz : 0 < size) (hbs : bytes ≤ 128)
    (base : Nat) {v : Value} {n : Nat} {xs : List Value} (ao : Option Addr) (m c : Nat) (news : List Value) (hs : a.eval s = v) (hx : a.eval x = .slice ao m c) (hown : w.ownsRow base e size v n xs) (hnone : ao = none → m = 0 ∧ c = 0)
    (hm : news.length = m * size) (hc : ∀ ad, ao = some ad → ∀ j u, news[j]? = some u → w.cell? (ad.add j) = some u) (h1 : ∀ u ∈ news, u.oneCell' = true) (hb : n + m ≤ 1099511627776) (hbase : base ≤ w.heap.size)
    (hK : ∀ v' w', w'.ownsRow base e size v' (n + m) (xs ++ news) → Below base w w' → K (a.put o.dst v') w') :
    if Region.wanted o (yielded ops a.tmps) = true then Oper.wp P o a w K Q else E := by
  rw [if_pos (by simp [Region.wanted, hgd])]
  cases ao with
  | some ad =>
    refine wp_append_own w s x t ho base e i z size bytes ht hi hz hsize hby hzs hsz v n xs hs hown ad m c news hx hm (hc ad rfl) h1 (by unfold maxLen; omega) ?_ hbase ?_
    · calc (n + m) * bytes ≤ 1099511627776 * 128 := Nat.mul_le_mul hb hbs
        _ ≤ 140737488355328 := by decide
    · intro v' w' h2 h3 _
      exact hK v' w' h2 (own_below hown h3 hbase)
  | none =>
    obtain ⟨rfl, rfl⟩ := hnone rfl
    have hnews : news = [] := List.eq_nil_of_length_eq_zero (by simpa using hm)
    subst hnews
    have hrun := run_append_owned_none (P := P) w base t o.type e i size ht hi _ n xs hown
    unfold Oper.wp
    simp [execOp, ho, resolve, invoke, builtin, hs, hx, hrun, Result.andThen]
    exact hK v w (by simpa using hown) (Below.refl _ _)

/-- A slice of slices of inodes. -/
def PartsN (w : World) (v : Value) (ps : List (List Nd)) : Prop :=
  ∃ a cap, v = .slice a ps.length cap ∧ (0 < ps.length → ∃ b off, a = some ⟨b, off, none⟩ ∧ b < w.heap.size ∧ ∀ i (h : i < ps.length), ∃ x, w.cell? ⟨b, off + i, none⟩ = some x ∧ Nds w x ps[i])

theorem flatP_take (ps : List (List Nd)) (k : Nat) (h : k < ps.length) : (ps.take (k + 1)).flatten = (ps.take k).flatten ++ ps[k] := by
  rw [List.take_succ_eq_append_getElem h, List.flatten_append]; simp
def flatK (ps : List (List Nd)) (k : Nat) : Nat := (ps.take k).flatten.length
theorem flatK_next {ps : List (List Nd)} {k : Nat} (h : k < ps.length) : flatK ps (k + 1) = flatK ps k + ps[k].length := by
  unfold flatK; rw [flatP_take ps k h, List.length_append]
theorem flatK_le (ps : List (List Nd)) (k : Nat) : flatK ps k ≤ ps.flatten.length := by
  unfold flatK; conv => rhs; rw [← List.take_append_drop k ps, List.flatten_append, List.length_append]
  omega
theorem flatK_end (ps : List (List Nd)) : flatK ps ps.length = ps.flatten.length := by unfold flatK; rw [List.take_length]

/-- What is new: an owned row of inodes. -/
def NewNds (w : World) (L : List Nd) (v : Value) (w' : World) : Prop := w'.ownsRow w.heap.size 33 6 v L.length (ndsV L) ∧ Below w.heap.size w w'

end Go.Proofs.Ytpeghnhaekebdaa

/- Walks: strings.Clone at any length, holding. -/
set_option linter.unusedVariables false
set_option linter.unusedSimpArgs false
namespace Go.Proofs.Ytpeghnhaekebdaa
open Go.RowKit

theorem CloneN_any (l : List UInt8) (w : World) (hl : l.length ≤ 281474976710656) :
    Calls Try.prog 36 #[.string ⟨l.toArray⟩] w fun e w' => e = .returned (.string ⟨l.toArray⟩) ∧ Below w.heap.size w w' := by
  go_enter Try.func36, Try.ntmps36
  go_wp2_with fail
  refine (Try.stringslite_Clone _ _ (by simp [ByteArray.size]; omega)).mono ?_
  rintro e w' ⟨rfl, hB⟩
  go_wp2
  go_ret
  exact ⟨rfl, hB⟩

/-- A table's cells. -/
abbrev fsC (mi mb nx : Int) (v : Value) : Array Value := #[.int .i64 mi, .int .i64 mb, .int .i64 nx, v]

theorem own_base {w : World} {base base' : Nat} {e : TypeId} {size : Nat} {v : Value} {n : Nat} {xs : List Value} (h : w.ownsRow base e size v n xs) (hb : base' ≤ base) : w.ownsRow base' e size v n xs := by
  refine ⟨h.1, ?_⟩
  rcases h.2 with h2 | ⟨g, cap, cur, hv, hg, r⟩
  · exact .inl h2
  · exact .inr ⟨g, cap, cur, hv, Nat.le_trans hb hg, r⟩
/-- An owned row: nil, or a block. -/
theorem own_cases {w : World} {base : Nat} {e : TypeId} {size : Nat} {v : Value} {n : Nat} {xs : List Value} (h : w.ownsRow base e size v n xs) :
    (v = .slice none 0 0 ∧ n = 0 ∧ xs = []) ∨ ∃ g cap, v = .slice (some ⟨g, 0, none⟩) n cap ∧ base ≤ g ∧ g < w.heap.size ∧ n ≤ cap ∧ cap ≤ maxLen := by
  rcases h.2 with ⟨rfl, rfl⟩ | ⟨g, cap, cur, rfl, hg, hh, hnc, hcm, _⟩
  · exact .inl ⟨rfl, rfl, List.eq_nil_of_length_eq_zero (by simpa using h.1)⟩
  · exact .inr ⟨g, cap, rfl, hg, (Array.getElem?_eq_some_iff.1 hh).1, hnc, hcm⟩
/-- A cell of an owned row set to what it holds. -/
theorem own_set_same {w : World} {base : Nat} {e : TypeId} {size g cap n : Nat} {xs : List Value} (h : w.ownsRow base e size (.slice (some ⟨g, 0, none⟩) n cap) n xs) {j : Nat} {u : Value} (hj : xs[j]? = some u) :
    (w.setCell ⟨g, j, none⟩ u).ownsRow base e size (.slice (some ⟨g, 0, none⟩) n cap) n xs ∧ w.grownBy (w.setCell ⟨g, j, none⟩ u) (some g) := by
  have h2 := h.stored j u
  have e1 : xs.set j u = xs := by
    apply List.ext_getElem?
    intro i
    rw [List.getElem?_set]
    split
    · rename_i e; subst e
      split
      · exact hj.symm
      · rename_i hh; rw [List.getElem?_eq_none (by omega)]
    · rfl
  simpa [e1] using h2
theorem own_at {w : World} {base : Nat} {e : TypeId} {g cap : Nat} {L : List Nd} (h : w.ownsRow base e 6 (.slice (some ⟨g, 0, none⟩) L.length cap) L.length (ndsV L)) {k : Nat} (hk : k < L.length) : NdAt w g (k * 6) L[k] := by
  have hat := ndsV_at L k hk
  have c := fun j (hj : j < L.length * 6) => h.cellAt j hj
  exact ⟨(c _ (by omega)).trans hat.1, (c _ (by omega)).trans hat.2.1, (c _ (by omega)).trans hat.2.2.1, (c _ (by omega)).trans hat.2.2.2.1, (c _ (by omega)).trans hat.2.2.2.2.1, (c _ (by omega)).trans hat.2.2.2.2.2⟩
/-- A block of four cells: what a walk asks of it. -/
theorem Blk.four {W : World} {B : Nat} {t : TypeId} {a b c d : Value} (h : Blk W B t #[a, b, c, d]) :
    (W.cell? ⟨B, 0, none⟩ = some a ∧ W.cell? ⟨B, 1, none⟩ = some b ∧ W.cell? ⟨B, 2, none⟩ = some c ∧ W.cell? ⟨B, 3, none⟩ = some d) ∧
      (W.frozen? ⟨B, 0, none⟩ = false ∧ W.frozen? ⟨B, 1, none⟩ = false ∧ W.frozen? ⟨B, 2, none⟩ = false ∧ W.frozen? ⟨B, 3, none⟩ = false) :=
  ⟨⟨(h.cell 0).trans rfl, (h.cell 1).trans rfl, (h.cell 2).trans rfl, (h.cell 3).trans rfl⟩, h.frozen 0, h.frozen 1, h.frozen 2, h.frozen 3⟩
/-- A struct of four cells stored whole. -/
theorem Blk.put4 {W : World} {B : Nat} {t : TypeId} {a b c d : Value} (h : Blk W B t #[a, b, c, d]) (p q r s : Value) :
    ∃ W', (((W.setCell ⟨B, 0, none⟩ p).setCell ⟨B, 1, none⟩ q).setCell ⟨B, 2, none⟩ r).setCell ⟨B, 3, none⟩ s = W' ∧ Blk W' B t #[p, q, r, s] ∧ W.grownBy W' (some B) := by
  refine ⟨_, rfl, ?_, ?_⟩
  · exact (((h.set 0 p).set 1 q).set 2 r).set 3 s
  · exact (((grownBy_set W B 0 p).trans (grownBy_set _ B 1 q)).trans (grownBy_set _ B 2 r)).trans (grownBy_set _ B 3 s)
theorem below_grown {n : Nat} {w0 W W' : World} {B : Nat} (h : Below n w0 W) (hg : W.grownBy W' (some B)) (hn : n ≤ w0.heap.size) (hB : n ≤ B) : Below n w0 W' := h.grown hg (Nat.le_trans hn h.size) (fun k hk => by cases hk; exact hB)
/-- A block of six cells: what a walk asks of it. -/
def Six (W : World) (B : Nat) (x : Nd) : Prop := W.cell? ⟨B, 0, none⟩ = some (.int .i64 x.ino) ∧ W.cell? ⟨B, 1, none⟩ = some (.int .i64 x.kind) ∧ W.cell? ⟨B, 2, none⟩ = some (.int .i64 x.links) ∧
  W.cell? ⟨B, 3, none⟩ = some (.string ⟨x.data.toArray⟩) ∧ W.cell? ⟨B, 4, none⟩ = some (.int .i64 x.parent) ∧ W.cell? ⟨B, 5, none⟩ = some x.ev
theorem Blk.six {W : World} {B : Nat} {t : TypeId} {x : Nd} (h : Blk W B t (ndC x)) :
    Six W B x ∧ (W.frozen? ⟨B, 0, none⟩ = false ∧ W.frozen? ⟨B, 1, none⟩ = false ∧ W.frozen? ⟨B, 2, none⟩ = false ∧ W.frozen? ⟨B, 3, none⟩ = false ∧ W.frozen? ⟨B, 4, none⟩ = false ∧ W.frozen? ⟨B, 5, none⟩ = false) :=
  ⟨⟨(h.cell 0).trans rfl, (h.cell 1).trans rfl, (h.cell 2).trans rfl, (h.cell 3).trans rfl, (h.cell 4).trans rfl, (h.cell 5).trans rfl⟩, h.frozen 0, h.frozen 1, h.frozen 2, h.frozen 3, h.frozen 4, h.frozen 5⟩

theorem PartsN.below {w w' : World} {v : Value} {ps : List (List Nd)} (h : PartsN w v ps) (hb : Below w.heap.size w w') : PartsN w' v ps := by
  obtain ⟨a, cap, rfl, h1⟩ := h
  refine ⟨a, cap, rfl, fun hl => ?_⟩
  obtain ⟨b, off, rfl, hlt, hx⟩ := h1 hl
  refine ⟨b, off, rfl, Nat.lt_of_lt_of_le hlt hb.size, fun i hi => ?_⟩
  obtain ⟨x, hc, hn⟩ := hx i hi
  exact ⟨x, (hb.cell (p := ⟨b, off + i, none⟩) hlt).trans hc, hn.below hb⟩

end Go.Proofs.Ytpeghnhaekebdaa
