/- Texts put together: MayB, Pure04, Pure05, Pure06, Pure07, Pure08, Tree08, Tree08b, Pure03, Order08, Order08b, Pure09. -/
import Derived.Lib.Bytealg
set_option linter.unusedVariables false
set_option linter.unusedSimpArgs false
/- A name that may be. No program's function. -/
namespace Go.Proofs.YtoejjdebfjepaaaGreat
def mayB (n : List UInt8) : Bool := !n.isEmpty && (n != [46]) && (n != [46, 46]) && decide (n.length ≤ 255) && !n.contains 47 && !n.contains 0
end Go.Proofs.YtoejjdebfjepaaaGreat

/- Directories' entries as lists: right ones, looked for, put in and taken away. No program's function. -/
set_option linter.unusedVariables false
set_option linter.unusedSimpArgs false
namespace Go.Proofs.YtoejjdebfjepaaaGreat

/-- An entry: its name, its number. -/
abbrev Ent : Type := List UInt8 × Int
abbrev ltB (a b : List UInt8) : Bool := Op.bytesLess a b

theorem lt_irrefl : ∀ a : List UInt8, ltB a a = false
  | [] => by simp [ltB, Op.bytesLess]
  | c :: a => by
    have := lt_irrefl a
    simp only [ltB] at this
    simp [ltB, Op.bytesLess, this, UInt8.lt_irrefl]
theorem lt_trans : ∀ a b c : List UInt8, ltB a b = true → ltB b c = true → ltB a c = true
  | a, b, [], _, h => by cases b <;> simp [ltB, Op.bytesLess] at h
  | a, [], c :: z, h, _ => by cases a <;> simp [ltB, Op.bytesLess] at h
  | [], b :: y, c :: z, _, _ => by simp [ltB, Op.bytesLess]
  | a :: x, b :: y, c :: z, h1, h2 => by
    have ih := lt_trans x y z
    simp only [ltB, Op.bytesLess, Bool.or_eq_true, Bool.and_eq_true, decide_eq_true_eq, beq_iff_eq] at h1 h2 ih ⊢
    rcases h1 with h1 | ⟨rfl, h1⟩
    · rcases h2 with h2 | ⟨rfl, h2⟩
      · exact .inl (UInt8.lt_trans h1 h2)
      · exact .inl h1
    · rcases h2 with h2 | ⟨rfl, h2⟩
      · exact .inl h2
      · exact .inr ⟨rfl, ih h1 h2⟩
theorem lt_tri : ∀ a b : List UInt8, ltB a b = false → ltB b a = false → a = b
  | [], [], _, _ => rfl
  | [], _ :: _, h, _ => by simp [ltB, Op.bytesLess] at h
  | _ :: _, [], _, h => by simp [ltB, Op.bytesLess] at h
  | a :: x, b :: y, h1, h2 => by
    have ih := lt_tri x y
    simp only [ltB, Op.bytesLess, Bool.or_eq_false_iff, Bool.and_eq_false_iff, decide_eq_false_iff_not] at h1 h2 ih
    have e : a = b := by
      rcases Nat.lt_trichotomy a.toNat b.toNat with h | h | h
      · exact absurd (UInt8.lt_iff_toNat_lt.2 h) h1.1
      · exact UInt8.toNat_inj.1 h
      · exact absurd (UInt8.lt_iff_toNat_lt.2 h) h2.1
    subst e
    rw [ih (h1.2.resolve_left (by simp)) (h2.2.resolve_left (by simp))]
theorem lt_asym {a b : List UInt8} (h : ltB a b = true) : ltB b a = false := by
  rw [Bool.eq_false_iff]; intro h2
  have := lt_trans a b a h h2
  rw [lt_irrefl] at this; cases this
theorem lt_ne {a b : List UInt8} (h : ltB a b = true) : a ≠ b := by
  rintro rfl; rw [lt_irrefl] at h; cases h
theorem cmp_lt : ∀ a b : List UInt8, decide (Lib.compareBytes a b < 0) = ltB a b
  | [], [] => by simp [Lib.compareBytes, ltB, Op.bytesLess]
  | [], _ :: _ => by simp [Lib.compareBytes, ltB, Op.bytesLess]
  | _ :: _, [] => by simp [Lib.compareBytes, ltB, Op.bytesLess]
  | a :: x, b :: y => by
    have ih := cmp_lt x y
    by_cases h1 : a < b
    · simp [Lib.compareBytes, ltB, Op.bytesLess, h1]
    · by_cases h2 : b < a
      · have hne : a ≠ b := by rintro rfl; exact UInt8.lt_irrefl _ h2
        simp [Lib.compareBytes, ltB, Op.bytesLess, h1, h2, hne]
      · have e : a = b := by
          rcases Nat.lt_trichotomy a.toNat b.toNat with h | h | h
          · exact absurd (UInt8.lt_iff_toNat_lt.2 h) h1
          · exact UInt8.toNat_inj.1 h
          · exact absurd (UInt8.lt_iff_toNat_lt.2 h) h2
        subst e
        simp only [Lib.compareBytes, if_neg h1, ih]
        simp [ltB, Op.bytesLess, h1]
theorem cmp_eq0 : ∀ a b : List UInt8, (Lib.compareBytes a b == 0) = (a == b)
  | [], [] => by simp [Lib.compareBytes]
  | [], _ :: _ => by simp [Lib.compareBytes]
  | _ :: _, [] => by simp [Lib.compareBytes]
  | a :: x, b :: y => by
    have ih := cmp_eq0 x y
    by_cases h1 : a < b
    · have hne : a ≠ b := by rintro rfl; exact UInt8.lt_irrefl _ h1
      simp [Lib.compareBytes, h1, hne]
    · by_cases h2 : b < a
      · have hne : a ≠ b := by rintro rfl; exact UInt8.lt_irrefl _ h2
        simp [Lib.compareBytes, h1, h2, hne]
      · have e : a = b := by
          rcases Nat.lt_trichotomy a.toNat b.toNat with h | h | h
          · exact absurd (UInt8.lt_iff_toNat_lt.2 h) h1
          · exact UInt8.toNat_inj.1 h
          · exact absurd (UInt8.lt_iff_toNat_lt.2 h) h2
        subst e
        simp only [Lib.compareBytes, if_neg h1, ih]
        simp
theorem cmp_range (a b : List UInt8) : Lib.compareBytes a b = -1 ∨ Lib.compareBytes a b = 0 ∨ Lib.compareBytes a b = 1 := by
  induction a generalizing b with
  | nil => cases b <;> simp [Lib.compareBytes]
  | cons x a ih =>
    cases b with
    | nil => simp [Lib.compareBytes]
    | cons y b =>
      simp only [Lib.compareBytes]
      split
      · simp
      · split
        · simp
        · exact ih b

def goodE (e : Ent) : Bool := mayB e.1 && decide (0 < e.2)
abbrev sortP (l : List Ent) : Prop := l.Pairwise (fun a b => ltB a.1 b.1 = true)
def rightP (l : List Ent) : Prop := (∀ e ∈ l, goodE e = true) ∧ sortP l
def rightB (l : List Ent) : Bool := l.all goodE && decide (sortP l)
theorem rightB_iff (l : List Ent) : rightB l = true ↔ rightP l := by
  simp [rightB, rightP, List.all_eq_true]
theorem right_take {l : List Ent} (h : rightP l) (k : Nat) : rightP (l.take k) :=
  ⟨fun e he => h.1 e (List.mem_of_mem_take he), List.Pairwise.sublist (List.take_sublist k l) h.2⟩
theorem sort_snoc (l : List Ent) (e : Ent) : sortP (l ++ [e]) ↔ sortP l ∧ ∀ a ∈ l, ltB a.1 e.1 = true := by
  simp [sortP, List.pairwise_append]
theorem right_bad {l : List Ent} {k : Nat} (h : k < l.length) (hg : goodE l[k] = false) : rightB l = false := by
  rw [Bool.eq_false_iff, Ne, rightB_iff]
  intro hr
  rw [hr.1 _ (List.getElem_mem h)] at hg; cases hg
theorem right_unsorted {l : List Ent} {k : Nat} (h : k + 1 < l.length) (hg : ltB (l[k]'(by omega)).1 l[k + 1].1 = false) : rightB l = false := by
  rw [Bool.eq_false_iff, Ne, rightB_iff]
  intro hr
  rw [List.pairwise_iff_getElem.1 hr.2 k (k + 1) (by omega) h (by omega)] at hg; cases hg
theorem right_next {l : List Ent} {k : Nat} (h : k < l.length) (hr : rightP (l.take k)) (hg : goodE l[k] = true) (hs : ∀ j (hj : j < l.length), j + 1 = k → ltB l[j].1 l[k].1 = true) : rightP (l.take (k + 1)) := by
  rw [List.take_succ_eq_append_getElem h]
  refine ⟨fun e he => ?_, ?_⟩
  · rcases List.mem_append.1 he with he | he
    · exact hr.1 e he
    · rw [List.mem_singleton] at he; rw [he]; exact hg
  · rw [sort_snoc]
    refine ⟨hr.2, fun a ha => ?_⟩
    obtain ⟨i, hi, rfl⟩ := List.getElem_of_mem ha
    have hik : i < k := by simp at hi; omega
    rw [List.getElem_take]
    rcases Nat.lt_or_ge (i + 1) k with hi1 | hi1
    · have h0 := hs (k - 1) (by omega) (by omega)
      have h1 := List.pairwise_iff_getElem.1 hr.2 i (k - 1) (by simp; omega) (by simp; omega) (by omega)
      rw [List.getElem_take, List.getElem_take] at h1
      exact lt_trans _ _ _ h1 h0
    · exact hs i (by omega) (by omega)
theorem right_end {l : List Ent} (hr : rightP (l.take l.length)) : rightB l = true := by
  rw [List.take_length] at hr; exact (rightB_iff l).2 hr

def numB (l : List Ent) (n : List UInt8) : Int := ((l.find? (fun e => e.1 == n)).map (·.2)).getD 0
def hasB (l : List Ent) (n : List UInt8) : Bool := l.any (fun e => e.1 == n)
theorem find_at {l : List Ent} {n : List UInt8} {k : Nat} (h : k < l.length) (hb : (l.take k).any (fun e => e.1 == n) = false) (hk : l[k].1 = n) : numB l n = l[k].2 ∧ hasB l n = true := by
  have hl : l = l.take k ++ l[k] :: l.drop (k + 1) := by rw [← List.drop_eq_getElem_cons, List.take_append_drop]
  have hf : (l.take k).find? (fun e => e.1 == n) = none := by
    rw [List.find?_eq_none]; intro e he
    have := (List.any_eq_false.1 hb) e he
    exact this
  constructor
  · unfold numB
    have e1 : l.find? (fun e => e.1 == n) = some l[k] := by
      have e2 : (l.take k ++ l[k] :: l.drop (k + 1)).find? (fun e => e.1 == n) = some l[k] := by rw [List.find?_append, hf, List.find?_cons_of_pos (by simp [hk])]; rfl
      rwa [← hl] at e2
    rw [e1]; rfl
  · unfold hasB; rw [List.any_eq_true]; exact ⟨_, List.getElem_mem h, by simp [hk]⟩
theorem find_none {l : List Ent} {n : List UInt8} (hb : l.any (fun e => e.1 == n) = false) : numB l n = 0 ∧ hasB l n = false := by
  refine ⟨?_, hb⟩
  have hf : l.find? (fun e => e.1 == n) = none := by
    rw [List.find?_eq_none]; intro e he
    exact (List.any_eq_false.1 hb) e he
  unfold numB; rw [hf]; rfl
theorem any_next {l : List Ent} {n : List UInt8} {k : Nat} (h : k < l.length) (hb : (l.take k).any (fun e => e.1 == n) = false) (hk : l[k].1 ≠ n) : (l.take (k + 1)).any (fun e => e.1 == n) = false := by
  rw [List.take_succ_eq_append_getElem h, List.any_append, hb]; simp [hk]

def aheadB (l : List Ent) (n : List UInt8) : List Ent := l.filter (fun e => ltB e.1 n)
def behindB (l : List Ent) (n : List UInt8) : List Ent := l.filter (fun e => ltB n e.1)
def withB (l : List Ent) (n : List UInt8) (i : Int) : List Ent := aheadB l n ++ (n, i) :: behindB l n
def withoutB (l : List Ent) (n : List UInt8) : List Ent := aheadB l n ++ behindB l n

/-- Where the search comes to. -/
def SrchP (l : List Ent) (n : List UInt8) (lo : Nat) : Prop :=
  lo ≤ l.length ∧ l.take lo = aheadB l n ∧ (hasB l n = true → ∃ h : lo < l.length, l[lo].1 = n ∧ l.drop (lo + 1) = behindB l n) ∧ (hasB l n = false → l.drop lo = behindB l n)

theorem filter_all {l : List Ent} {p : Ent → Bool} (h : ∀ e ∈ l, p e = true) : l.filter p = l := List.filter_eq_self.2 h
theorem filter_none {l : List Ent} {p : Ent → Bool} (h : ∀ e ∈ l, p e = false) : l.filter p = [] := by
  rw [List.filter_eq_nil_iff]; intro e he; rw [h e he]; simp
theorem srch_end {l : List Ent} {n : List UInt8} {lo : Nat} (hs : sortP l) (hlo : lo ≤ l.length) (h1 : ∀ t (ht : t < l.length), t < lo → ltB l[t].1 n = true) (h2 : ∀ t (ht : t < l.length), lo ≤ t → ltB l[t].1 n = false) :
    SrchP l n lo ∧ hasB l n = (if h : lo < l.length then l[lo].1 == n else false) := by
  have hl : l = l.take lo ++ l.drop lo := (List.take_append_drop _ _).symm
  have ha : ∀ e ∈ l.take lo, ltB e.1 n = true := by
    intro e he
    obtain ⟨t, ht, rfl⟩ := List.getElem_of_mem he
    rw [List.getElem_take]; exact h1 t (by simp at ht; omega) (by simp at ht; omega)
  have hd : ∀ e ∈ l.drop lo, ltB e.1 n = false := by
    intro e he
    obtain ⟨t, ht, rfl⟩ := List.getElem_of_mem he
    rw [List.getElem_drop]; exact h2 (lo + t) (by simp at ht; omega) (by omega)
  have hah : aheadB l n = l.take lo := by
    unfold aheadB; conv => lhs; rw [hl]
    rw [List.filter_append, filter_all ha, filter_none hd, List.append_nil]
  have hbt : (l.take lo).filter (fun e => ltB n e.1) = [] := filter_none fun e he => lt_asym (ha e he)
  have hbe : behindB l n = (l.drop lo).filter (fun e => ltB n e.1) := by
    unfold behindB; conv => lhs; rw [hl]
    rw [List.filter_append, hbt, List.nil_append]
  have hat : (l.take lo).any (fun e => e.1 == n) = false := by
    rw [List.any_eq_false]; intro e he; simpa using lt_ne (ha e he)
  have hhas : hasB l n = (l.drop lo).any (fun e => e.1 == n) := by
    unfold hasB; conv => lhs; rw [hl]
    rw [List.any_append, hat, Bool.false_or]
  by_cases hlt : lo < l.length
  · have hdr : l.drop lo = l[lo] :: l.drop (lo + 1) := List.drop_eq_getElem_cons hlt
    have hsd : sortP (l.drop lo) := List.Pairwise.sublist (List.drop_sublist _ _) hs
    rw [hdr] at hsd
    have hgt := (List.pairwise_cons.1 hsd).1
    have hlo2 := h2 lo hlt (Nat.le_refl _)
    cases hc : ltB n l[lo].1
    · have e : l[lo].1 = n := lt_tri _ _ hlo2 hc
      have hT : hasB l n = true := by rw [hhas, hdr, List.any_cons]; simp [e]
      refine ⟨⟨hlo, hah.symm, fun _ => ⟨hlt, e, ?_⟩, fun h => by rw [hT] at h; cases h⟩, by rw [hT, dif_pos hlt]; simp [e]⟩
      rw [hbe, hdr, List.filter_cons_of_neg (by rw [hc]; simp), filter_all fun x hx => by rw [← e]; exact hgt x hx]
    · have hne : ∀ e ∈ l.drop lo, ltB n e.1 = true := by
        intro e he
        rw [hdr, List.mem_cons] at he
        rcases he with rfl | he
        · exact hc
        · exact lt_trans _ _ _ hc (hgt e he)
      have hF : hasB l n = false := by rw [hhas, List.any_eq_false]; intro e he; simpa using (lt_ne (hne e he)).symm
      refine ⟨⟨hlo, hah.symm, fun h => (by rw [hF] at h; cases h), fun _ => by rw [hbe, filter_all hne]⟩, ?_⟩
      rw [hF, dif_pos hlt]; simpa using (lt_ne hc).symm
  · have hd0 : l.drop lo = [] := List.drop_eq_nil_of_le (by omega)
    have hF : hasB l n = false := by rw [hhas, hd0]; rfl
    refine ⟨⟨hlo, hah.symm, fun h => (by rw [hF] at h; cases h), fun _ => by rw [hbe, hd0]; rfl⟩, ?_⟩
    rw [hF, dif_neg hlt]
theorem sort_upto {l : List Ent} {n : List UInt8} {a b : Nat} (hs : sortP l) (hb : b < l.length) (hab : a ≤ b) (h : ltB l[b].1 n = true) : ltB (l[a]'(by omega)).1 n = true := by
  rcases Nat.lt_or_ge a b with h1 | h1
  · exact lt_trans _ _ _ (List.pairwise_iff_getElem.1 hs a b (by omega) hb h1) h
  · obtain rfl : a = b := by omega
    exact h

theorem find_srch {l : List Ent} {n : List UInt8} {lo : Nat} (h : SrchP l n lo) (hh : hasB l n = true) : ∃ hk : lo < l.length, numB l n = l[lo].2 := by
  obtain ⟨_, ht, hy, _⟩ := h
  obtain ⟨hk, e, _⟩ := hy hh
  refine ⟨hk, (find_at hk ?_ e).1⟩
  rw [ht, List.any_eq_false]
  intro x hx
  simpa using lt_ne (List.mem_filter.1 hx).2

/-- The document's way. -/
theorem without_eq {l : List Ent} (n : List UInt8) (hs : sortP l) : l.filter (fun e => e.1 != n) = withoutB l n := by
  induction l with
  | nil => rfl
  | cons e t ih =>
    obtain ⟨h1, h2⟩ := List.pairwise_cons.1 hs
    have ih := ih h2
    unfold withoutB aheadB behindB at *
    cases hc : ltB e.1 n
    · have ha : t.filter (fun x => ltB x.1 n) = [] := filter_none fun x hx => by
        rw [Bool.eq_false_iff]; intro hx2
        rw [lt_trans _ _ _ (h1 x hx) hx2] at hc; cases hc
      rw [ha] at ih
      rw [List.filter_cons_of_neg (p := fun x : Ent => ltB x.1 n) (by simp [hc]), ha]
      cases hd : ltB n e.1
      · have he : e.1 = n := lt_tri _ _ hc hd
        rw [List.filter_cons_of_neg (p := fun x : Ent => x.1 != n) (by simp [he]), List.filter_cons_of_neg (p := fun x : Ent => ltB n x.1) (by simp [hd]), ih]
      · rw [List.filter_cons_of_pos (p := fun x : Ent => x.1 != n) (by simpa using (lt_ne hd).symm), List.filter_cons_of_pos (p := fun x : Ent => ltB n x.1) hd, ih]; rfl
    · rw [List.filter_cons_of_pos (p := fun x : Ent => x.1 != n) (by simpa using lt_ne hc), List.filter_cons_of_pos (p := fun x : Ent => ltB x.1 n) hc, List.filter_cons_of_neg (p := fun x : Ent => ltB n x.1) (by simp [lt_asym hc]), ih]; rfl
def insB (n : List UInt8) (i : Int) : List Ent → List Ent
  | [] => [(n, i)]
  | e :: r => if ltB n e.1 = true then (n, i) :: e :: r else e :: insB n i r
theorem ins_eq {l : List Ent} (n : List UInt8) (i : Int) (hs : sortP l) : insB n i (withoutB l n) = withB l n i := by
  have hb : insB n i (behindB l n) = (n, i) :: behindB l n := by
    cases h : behindB l n with
    | nil => rfl
    | cons e r =>
      have : e ∈ behindB l n := by rw [h]; simp
      rw [insB, if_pos (List.mem_filter.1 this).2]
  unfold withoutB withB
  have ha : ∀ x ∈ aheadB l n, ltB n x.1 = false := fun x hx => lt_asym (List.mem_filter.1 hx).2
  generalize aheadB l n = A at ha
  induction A with
  | nil => simpa using hb
  | cons x A ih =>
    rw [List.cons_append, insB, if_neg (by rw [ha x (by simp)]; simp), ih fun y hy => ha y (by simp [hy])]; rfl

theorem with_sort {l : List Ent} (n : List UInt8) (i : Int) (hs : sortP l) : sortP (withB l n i) := by
  unfold withB sortP
  rw [List.pairwise_append, List.pairwise_cons]
  refine ⟨List.Pairwise.sublist List.filter_sublist hs, ⟨fun x hx => (List.mem_filter.1 hx).2, List.Pairwise.sublist List.filter_sublist hs⟩, fun a ha b hb => ?_⟩
  have h1 := (List.mem_filter.1 ha).2
  rcases List.mem_cons.1 hb with rfl | hb
  · exact h1
  · exact lt_trans _ _ _ h1 (List.mem_filter.1 hb).2
theorem without_sort {l : List Ent} (n : List UInt8) (hs : sortP l) : sortP (withoutB l n) := by
  unfold withoutB sortP
  rw [List.pairwise_append]
  refine ⟨List.Pairwise.sublist List.filter_sublist hs, List.Pairwise.sublist List.filter_sublist hs, fun a ha b hb => ?_⟩
  exact lt_trans _ _ _ (List.mem_filter.1 ha).2 (List.mem_filter.1 hb).2
theorem with_right {l : List Ent} {n : List UInt8} {i : Int} (hr : rightP l) (hg : goodE (n, i) = true) : rightP (withB l n i) := by
  refine ⟨fun e he => ?_, with_sort n i hr.2⟩
  unfold withB at he
  rcases List.mem_append.1 he with he | he
  · exact hr.1 e (List.mem_filter.1 he).1
  · rcases List.mem_cons.1 he with rfl | he
    · exact hg
    · exact hr.1 e (List.mem_filter.1 he).1
theorem without_right {l : List Ent} (n : List UInt8) (hr : rightP l) : rightP (withoutB l n) := by
  refine ⟨fun e he => ?_, without_sort n hr.2⟩
  unfold withoutB at he
  rcases List.mem_append.1 he with he | he <;> exact hr.1 e (List.mem_filter.1 he).1
theorem find_filter (l : List Ent) (p : Ent → Bool) (n : List UInt8) (hp : ∀ e : Ent, e.1 = n → p e = true) : (l.filter p).find? (fun e => e.1 == n) = l.find? (fun e => e.1 == n) := by
  induction l with
  | nil => rfl
  | cons e t ih =>
    by_cases he : e.1 = n
    · rw [List.filter_cons_of_pos (hp e he), List.find?_cons_of_pos (by simp [he]), List.find?_cons_of_pos (by simp [he])]
    · rw [List.find?_cons_of_neg (by simpa using he)]
      cases hpe : p e
      · rw [List.filter_cons_of_neg (by simp [hpe]), ih]
      · rw [List.filter_cons_of_pos hpe, List.find?_cons_of_neg (by simpa using he), ih]
theorem has_find (l : List Ent) (n : List UInt8) : hasB l n = (l.find? (fun e => e.1 == n)).isSome := by
  unfold hasB; rw [Bool.eq_iff_iff, List.any_eq_true, List.find?_isSome]
theorem without_find {l : List Ent} (m n : List UInt8) (hs : sortP l) : (withoutB l m).find? (fun e => e.1 == n) = if m = n then none else l.find? (fun e => e.1 == n) := by
  rw [← without_eq m hs]
  split
  · rename_i h; subst h
    rw [List.find?_eq_none]; intro e he
    have := (List.mem_filter.1 he).2
    simpa using this
  · rename_i h
    exact find_filter l _ n fun e he => by simpa [he] using fun e => h e.symm
theorem with_find {l : List Ent} (m n : List UInt8) (i : Int) (hs : sortP l) : (withB l m i).find? (fun e => e.1 == n) = if m = n then some (m, i) else l.find? (fun e => e.1 == n) := by
  have ha : ∀ e ∈ aheadB l m, e.1 ≠ m := fun e he => lt_ne (List.mem_filter.1 he).2
  have key : (withB l m i).find? (fun e => e.1 == n) = if m = n then some (m, i) else (withoutB l m).find? (fun e => e.1 == n) := by
    unfold withB withoutB
    rw [List.find?_append, List.find?_append]
    split
    · rename_i h; subst h
      rw [List.find?_eq_none.2 fun e he => by simpa using ha e he, List.find?_cons_of_pos (by simp)]; rfl
    · rename_i h
      rw [List.find?_cons_of_neg (by simpa using h)]
  rw [key, without_find m n hs]
  split
  · rfl
  · rfl
theorem with_num {l : List Ent} (m n : List UInt8) (i : Int) (hs : sortP l) : numB (withB l m i) n = if m = n then i else numB l n := by
  unfold numB; rw [with_find m n i hs]; split <;> rfl
theorem with_has {l : List Ent} (m n : List UInt8) (i : Int) (hs : sortP l) : hasB (withB l m i) n = if m = n then true else hasB l n := by
  rw [has_find, with_find m n i hs]; split
  · rfl
  · rw [has_find]
theorem without_num {l : List Ent} (m n : List UInt8) (hs : sortP l) : numB (withoutB l m) n = if m = n then 0 else numB l n := by
  unfold numB; rw [without_find m n hs]; split <;> rfl
theorem without_has {l : List Ent} (m n : List UInt8) (hs : sortP l) : hasB (withoutB l m) n = if m = n then false else hasB l n := by
  rw [has_find, without_find m n hs]; split
  · rfl
  · rw [has_find]
theorem parts_len (l : List Ent) (n : List UInt8) : (aheadB l n).length + (behindB l n).length ≤ l.length := by
  unfold aheadB behindB
  induction l with
  | nil => simp
  | cons e t ih =>
    cases h : ltB e.1 n
    · rw [List.filter_cons_of_neg (p := fun x : Ent => ltB x.1 n) (by simp [h])]
      have := List.length_filter_le (fun x : Ent => ltB n x.1) [e]
      simp only [List.filter_cons] at *
      split <;> simp at * <;> omega
    · rw [List.filter_cons_of_pos (p := fun x : Ent => ltB x.1 n) h, List.filter_cons_of_neg (p := fun x : Ent => ltB n x.1) (by simp [lt_asym h])]
      simp; omega
theorem without_len (l : List Ent) (n : List UInt8) : (withoutB l n).length ≤ l.length := by
  have := parts_len l n; unfold withoutB; rw [List.length_append]; omega
theorem with_len (l : List Ent) (n : List UInt8) (i : Int) : (withB l n i).length ≤ l.length + 1 := by
  have := parts_len l n; unfold withB; rw [List.length_append, List.length_cons]; omega
def shortP (b : Nat) (l : List Ent) : Prop := ∀ e ∈ l, e.1.length ≤ b
theorem without_short {l : List Ent} {b : Nat} (n : List UInt8) (h : shortP b l) : shortP b (withoutB l n) := by
  intro e he
  unfold withoutB at he
  rcases List.mem_append.1 he with he | he <;> exact h e (List.mem_filter.1 he).1
theorem with_short {l : List Ent} {b : Nat} {n : List UInt8} (i : Int) (h : shortP b l) (hn : n.length ≤ b) : shortP b (withB l n i) := by
  intro e he
  unfold withB at he
  rcases List.mem_append.1 he with he | he
  · exact h e (List.mem_filter.1 he).1
  · rcases List.mem_cons.1 he with rfl | he
    · exact hn
    · exact h e (List.mem_filter.1 he).1
theorem may_len {n : List UInt8} (h : mayB n = true) : n.length ≤ 255 := by
  simp [mayB] at h; exact h.1.1.2
theorem right_short {l : List Ent} (h : rightP l) : shortP 255 l := by
  intro e he
  have := h.1 e he
  rw [goodE, Bool.and_eq_true] at this
  exact may_len this.1

def fewE (l : List Ent) : Bool := (l.take 100).all (fun s => decide (s.1.length ≤ 300)) && decide (l.length ≤ 50)
theorem fewE_no {l : List Ent} {k : Nat} (h : k < l.length) (h1 : k < 100) (h2 : 300 < l[k].1.length) : fewE l = false := by
  rw [Bool.eq_false_iff]
  intro hb
  simp only [fewE, Bool.and_eq_true, List.all_eq_true] at hb
  have hk : k < (l.take 100).length := by simp; omega
  have := hb.1 (l.take 100)[k] (List.getElem_mem hk)
  simp at this
  omega
theorem fewE_yes {l : List Ent} {k : Nat} (h : ∀ j (hj : j < l.length), j < k → l[j].1.length ≤ 300) (h2 : ¬ (k < l.length ∧ k < 100)) : fewE l = decide (l.length ≤ 50) := by
  unfold fewE
  have : (l.take 100).all (fun s => decide (s.1.length ≤ 300)) = true := by
    rw [List.all_eq_true]
    intro s hs
    obtain ⟨j, hj, rfl⟩ := List.getElem_of_mem hs
    have hj2 : j < l.length ∧ j < 100 := by simp at hj; omega
    have := h j hj2.1 (by omega)
    simpa using this
  rw [this]; simp
theorem fewE_small {l : List Ent} (h : fewE l = true) : l.length ≤ 50 ∧ shortP 300 l := by
  simp only [fewE, Bool.and_eq_true, List.all_eq_true, decide_eq_true_eq] at h
  refine ⟨h.2, fun x hx => ?_⟩
  rw [List.take_of_length_le (by omega)] at h
  exact h.1 x hx
end Go.Proofs.YtoejjdebfjepaaaGreat

/- Tables' inodes as lists: rising ones, looked for, put in and dropped. No program's function. -/
set_option linter.unusedVariables false
set_option linter.unusedSimpArgs false
namespace Go.Proofs.YtoejjdebfjepaaaGreat

/-- An inode: its fields, its entries' slice as it lies in its cell, and what that slice reads as. -/
structure Nd where
  ino : Int
  kind : Int
  links : Int
  data : List UInt8
  parent : Int
  ev : Value
  ents : List Ent

abbrev Key : Type := Int × Int × Int × List UInt8 × Int × List Ent
instance keyDec1 : DecidableEq (List Ent) := inferInstance
instance keyDec2 : DecidableEq (Int × List Ent) := instDecidableEqProd
instance keyDec3 : DecidableEq (List UInt8 × Int × List Ent) := instDecidableEqProd
instance keyDec4 : DecidableEq (Int × List UInt8 × Int × List Ent) := instDecidableEqProd
instance keyDec5 : DecidableEq (Int × Int × List UInt8 × Int × List Ent) := instDecidableEqProd
instance keyDec : DecidableEq Key := instDecidableEqProd
def Nd.key (x : Nd) : Key := (x.ino, x.kind, x.links, x.data, x.parent, x.ents)
def oneB (a b : Nd) : Bool := decide (a.key = b.key)
def onesB (a b : List Nd) : Bool := decide (a.map Nd.key = b.map Nd.key)
theorem oneB_refl (a : Nd) : oneB a a = true := decide_eq_true rfl
theorem onesB_refl (a : List Nd) : onesB a a = true := decide_eq_true rfl
theorem oneB_iff (a b : Nd) : oneB a b = true ↔ a.key = b.key := by simp [oneB]
theorem key_ext (a b : Nd) (h1 : a.ino = b.ino) (h2 : a.kind = b.kind) (h3 : a.links = b.links) (h4 : a.data = b.data) (h5 : a.parent = b.parent) (h6 : a.ents = b.ents) : oneB a b = true := by
  rw [oneB_iff]; simp [Nd.key, *]
theorem oneB_no1 {a b : Nd} (h : (a.ino == b.ino) = false) : oneB a b = false := by
  rw [Bool.eq_false_iff]; intro e; rw [oneB_iff] at e; simp [Nd.key] at e; simp at h; exact h e.1
theorem oneB_no2 {a b : Nd} (h : (a.kind == b.kind) = false) : oneB a b = false := by
  rw [Bool.eq_false_iff]; intro e; rw [oneB_iff] at e; simp [Nd.key] at e; simp at h; exact h e.2.1
theorem oneB_no3 {a b : Nd} (h : (a.links == b.links) = false) : oneB a b = false := by
  rw [Bool.eq_false_iff]; intro e; rw [oneB_iff] at e; simp [Nd.key] at e; simp at h; exact h e.2.2.1
theorem oneB_no4 {a b : Nd} (h : (a.data == b.data) = false) : oneB a b = false := by
  rw [Bool.eq_false_iff]; intro e; rw [oneB_iff] at e; simp [Nd.key] at e; simp at h; exact h e.2.2.2.1
theorem oneB_no5 {a b : Nd} (h : (a.parent == b.parent) = false) : oneB a b = false := by
  rw [Bool.eq_false_iff]; intro e; rw [oneB_iff] at e; simp [Nd.key] at e; simp at h; exact h e.2.2.2.2.1
theorem oneB_ents {a b : Nd} (h1 : (a.ino == b.ino) = true) (h2 : (a.kind == b.kind) = true) (h3 : (a.links == b.links) = true) (h4 : (a.data == b.data) = true) (h5 : (a.parent == b.parent) = true) : oneB a b = decide (a.ents = b.ents) := by
  simp only [beq_iff_eq] at h1 h2 h3 h4 h5
  simp [oneB, Nd.key, *]
theorem onesB_len {a b : List Nd} (h : a.length ≠ b.length) : onesB a b = false := by
  rw [Bool.eq_false_iff]; intro e
  simp only [onesB, decide_eq_true_eq] at e
  have := congrArg List.length e
  simp at this; exact h this
theorem onesB_no {a b : List Nd} {k : Nat} (ha : k < a.length) (hb : k < b.length) (h : oneB a[k] b[k] = false) : onesB a b = false := by
  rw [Bool.eq_false_iff]; intro e
  simp only [onesB, decide_eq_true_eq] at e
  have h1 : (a.map Nd.key)[k]? = (b.map Nd.key)[k]? := by rw [e]
  simp [ha, hb] at h1
  simp [oneB, h1] at h
theorem onesB_next {a b : List Nd} {k : Nat} (ha : k < a.length) (hb : k < b.length) (ht : (a.take k).map Nd.key = (b.take k).map Nd.key) (h : oneB a[k] b[k] = true) : (a.take (k + 1)).map Nd.key = (b.take (k + 1)).map Nd.key := by
  rw [List.take_succ_eq_append_getElem ha, List.take_succ_eq_append_getElem hb, List.map_append, List.map_append, ht]
  rw [oneB_iff] at h
  simp [h]
theorem onesB_end {a b : List Nd} (hl : a.length = b.length) (ht : (a.take a.length).map Nd.key = (b.take a.length).map Nd.key) : onesB a b = true := by
  rw [List.take_length, hl, List.take_length] at ht
  exact decide_eq_true ht

abbrev riseP (l : List Nd) : Prop := l.Pairwise (fun a b => a.ino < b.ino)
def riseN (l : List Nd) : Bool := decide (riseP l)
theorem riseN_iff (l : List Nd) : riseN l = true ↔ riseP l := by simp [riseN]
theorem rise_next {l : List Nd} {k : Nat} (h : k < l.length) (hr : riseP (l.take k)) (hs : ∀ j (hj : j < l.length), j + 1 = k → l[j].ino < l[k].ino) : riseP (l.take (k + 1)) := by
  rw [List.take_succ_eq_append_getElem h]
  refine List.pairwise_append.2 ⟨hr, List.pairwise_singleton _ _, fun a ha b hb => ?_⟩
  obtain rfl := List.mem_singleton.1 hb
  obtain ⟨i, hi, rfl⟩ := List.getElem_of_mem ha
  have hik : i < k := by simp at hi; omega
  rw [List.getElem_take]
  rcases Nat.lt_or_ge (i + 1) k with hi1 | hi1
  · have h0 := hs (k - 1) (by omega) (by omega)
    have h1 := List.pairwise_iff_getElem.1 hr i (k - 1) (by simp; omega) (by simp; omega) (by omega)
    rw [List.getElem_take, List.getElem_take] at h1
    omega
  · exact hs i (by omega) (by omega)
theorem rise_no {l : List Nd} {k : Nat} (h : k + 1 < l.length) (hg : ¬ (l[k]'(by omega)).ino < l[k + 1].ino) : riseN l = false := by
  rw [Bool.eq_false_iff, Ne, riseN_iff]
  intro hr
  exact hg (List.pairwise_iff_getElem.1 hr k (k + 1) (by omega) h (by omega))
theorem rise_end {l : List Nd} (h : riseP (l.take l.length)) : riseN l = true := by
  rw [List.take_length] at h; exact (riseN_iff l).2 h

def aheadN (l : List Nd) (i : Int) : List Nd := l.filter (fun e => decide (e.ino < i))
def behindN (l : List Nd) (i : Int) : List Nd := l.filter (fun e => decide (i < e.ino))
def setN (l : List Nd) (x : Nd) : List Nd := aheadN l x.ino ++ x :: behindN l x.ino
def dropN (l : List Nd) (i : Int) : List Nd := aheadN l i ++ behindN l i
def hasN (l : List Nd) (i : Int) : Bool := l.any (fun e => e.ino == i)
def zeroN : Nd := ⟨0, 0, 0, [], 0, .slice none 0 0, []⟩
def getN (l : List Nd) (i : Int) : Nd := (l.find? (fun e => e.ino == i)).getD zeroN

theorem ahead_le (l : List Nd) (i : Int) : (aheadN l i).length ≤ l.length := List.length_filter_le _ _
theorem dropN_len (l : List Nd) (i : Int) : (dropN l i).length ≤ l.length := by
  unfold dropN aheadN behindN
  induction l with
  | nil => simp
  | cons e r ih =>
    simp only [List.filter_cons, List.length_append] at ih ⊢
    split <;> split <;> simp at * <;> omega
theorem setN_len (l : List Nd) (x : Nd) : (setN l x).length ≤ l.length + 1 := by
  have := dropN_len l x.ino
  simp [dropN, setN] at this ⊢; omega
theorem mem_setN {l : List Nd} {x e : Nd} (h : e ∈ setN l x) : e = x ∨ e ∈ l := by
  simp only [setN, aheadN, behindN, List.mem_append, List.mem_cons, List.mem_filter] at h
  rcases h with h | h | h
  · exact .inr h.1
  · exact .inl h
  · exact .inr h.1
theorem mem_dropN {l : List Nd} {i : Int} {e : Nd} (h : e ∈ dropN l i) : e ∈ l := by
  simp only [dropN, aheadN, behindN, List.mem_append, List.mem_filter] at h
  rcases h with h | h <;> exact h.1

/-- Where the search comes to. -/
def SrchN (l : List Nd) (i : Int) (lo : Nat) : Prop :=
  lo ≤ l.length ∧ l.take lo = aheadN l i ∧ (hasN l i = true → ∃ h : lo < l.length, l[lo].ino = i ∧ l.drop (lo + 1) = behindN l i) ∧ (hasN l i = false → l.drop lo = behindN l i)

theorem filtN_all {l : List Nd} {p : Nd → Bool} (h : ∀ e ∈ l, p e = true) : l.filter p = l := List.filter_eq_self.2 h
theorem filtN_none {l : List Nd} {p : Nd → Bool} (h : ∀ e ∈ l, p e = false) : l.filter p = [] := by
  rw [List.filter_eq_nil_iff]; intro e he; rw [h e he]; simp
theorem srchN_end {l : List Nd} {n : Int} {lo : Nat} (hs : riseP l) (hlo : lo ≤ l.length) (h1 : ∀ t (ht : t < l.length), t < lo → l[t].ino < n) (h2 : ∀ t (ht : t < l.length), lo ≤ t → n ≤ l[t].ino) :
    SrchN l n lo ∧ hasN l n = (if h : lo < l.length then l[lo].ino == n else false) := by
  have hl : l = l.take lo ++ l.drop lo := (List.take_append_drop _ _).symm
  have ha : ∀ e ∈ l.take lo, e.ino < n := by
    intro e he
    obtain ⟨t, ht, rfl⟩ := List.getElem_of_mem he
    rw [List.getElem_take]; exact h1 t (by simp at ht; omega) (by simp at ht; omega)
  have hd : ∀ e ∈ l.drop lo, n ≤ e.ino := by
    intro e he
    obtain ⟨t, ht, rfl⟩ := List.getElem_of_mem he
    rw [List.getElem_drop]; exact h2 (lo + t) (by simp at ht; omega) (by omega)
  have hah : aheadN l n = l.take lo := by
    unfold aheadN; conv => lhs; rw [hl]
    rw [List.filter_append, filtN_all fun e he => decide_eq_true (ha e he), filtN_none fun e he => decide_eq_false (by have := hd e he; omega), List.append_nil]
  have hbt : (l.take lo).filter (fun e => decide (n < e.ino)) = [] := filtN_none fun e he => decide_eq_false (by have := ha e he; omega)
  have hbe : behindN l n = (l.drop lo).filter (fun e => decide (n < e.ino)) := by
    unfold behindN; conv => lhs; rw [hl]
    rw [List.filter_append, hbt, List.nil_append]
  have hat : (l.take lo).any (fun e => e.ino == n) = false := by
    rw [List.any_eq_false]; intro e he; have := ha e he; simp; omega
  have hhas : hasN l n = (l.drop lo).any (fun e => e.ino == n) := by
    unfold hasN; conv => lhs; rw [hl]
    rw [List.any_append, hat, Bool.false_or]
  by_cases hlt : lo < l.length
  · have hdr : l.drop lo = l[lo] :: l.drop (lo + 1) := List.drop_eq_getElem_cons hlt
    have hsd : riseP (l.drop lo) := List.Pairwise.sublist (List.drop_sublist _ _) hs
    rw [hdr] at hsd
    have hgt := (List.pairwise_cons.1 hsd).1
    have hlo2 := h2 lo hlt (Nat.le_refl _)
    by_cases e : l[lo].ino = n
    · have hT : hasN l n = true := by rw [hhas, hdr, List.any_cons]; simp [e]
      refine ⟨⟨hlo, hah.symm, fun _ => ⟨hlt, e, ?_⟩, fun h => by rw [hT] at h; cases h⟩, by rw [hT, dif_pos hlt]; simp [e]⟩
      rw [hbe, hdr, List.filter_cons_of_neg (by simp; omega), filtN_all fun x hx => decide_eq_true (by have := hgt x hx; omega)]
    · have hne : ∀ e ∈ l.drop lo, n < e.ino := by
        intro e he
        rw [hdr, List.mem_cons] at he
        rcases he with rfl | he
        · omega
        · have := hgt e he; omega
      have hF : hasN l n = false := by rw [hhas, List.any_eq_false]; intro e he; have := hne e he; simp; omega
      refine ⟨⟨hlo, hah.symm, fun h => (by rw [hF] at h; cases h), fun _ => by rw [hbe, filtN_all fun e he => decide_eq_true (hne e he)]⟩, ?_⟩
      rw [hF, dif_pos hlt]; simp [e]
  · have hd0 : l.drop lo = [] := List.drop_eq_nil_of_le (by omega)
    have hF : hasN l n = false := by rw [hhas, hd0]; rfl
    refine ⟨⟨hlo, hah.symm, fun h => (by rw [hF] at h; cases h), fun _ => by rw [hbe, hd0]; rfl⟩, ?_⟩
    rw [hF, dif_neg hlt]
theorem rise_upto {l : List Nd} {a b : Nat} (hs : riseP l) (hb : b < l.length) (hab : a ≤ b) : (l[a]'(by omega)).ino ≤ l[b].ino := by
  rcases Nat.lt_or_ge a b with h1 | h1
  · exact Int.le_of_lt (List.pairwise_iff_getElem.1 hs a b (by omega) hb h1)
  · obtain rfl : a = b := by omega
    exact Int.le_refl _

theorem getN_at {l : List Nd} {n : Int} {k : Nat} (h : k < l.length) (hb : (l.take k).any (fun e => e.ino == n) = false) (hk : l[k].ino = n) : getN l n = l[k] ∧ hasN l n = true := by
  have hl : l = l.take k ++ l[k] :: l.drop (k + 1) := by rw [← List.drop_eq_getElem_cons, List.take_append_drop]
  have hf : (l.take k).find? (fun e => e.ino == n) = none := by
    rw [List.find?_eq_none]; intro e he
    exact (List.any_eq_false.1 hb) e he
  constructor
  · unfold getN
    have e1 : l.find? (fun e => e.ino == n) = some l[k] := by
      have e2 : (l.take k ++ l[k] :: l.drop (k + 1)).find? (fun e => e.ino == n) = some l[k] := by rw [List.find?_append, hf, List.find?_cons_of_pos (by simp [hk])]; rfl
      rwa [← hl] at e2
    rw [e1]; rfl
  · unfold hasN; rw [List.any_eq_true]; exact ⟨_, List.getElem_mem h, by simp [hk]⟩
theorem getN_none {l : List Nd} {n : Int} (hb : hasN l n = false) : getN l n = zeroN := by
  have hf : l.find? (fun e => e.ino == n) = none := by
    rw [List.find?_eq_none]; intro e he
    exact (List.any_eq_false.1 hb) e he
  unfold getN; rw [hf]; rfl
theorem anyN_next {l : List Nd} {n : Int} {k : Nat} (h : k < l.length) (hb : (l.take k).any (fun e => e.ino == n) = false) (hk : (l[k].ino == n) = false) : (l.take (k + 1)).any (fun e => e.ino == n) = false := by
  rw [List.take_succ_eq_append_getElem h, List.any_append, hb]; simp [hk]
theorem getN_srch {l : List Nd} {n : Int} {lo : Nat} (h : SrchN l n lo) (hh : hasN l n = true) : ∃ hk : lo < l.length, getN l n = l[lo] := by
  obtain ⟨_, ht, hy, _⟩ := h
  obtain ⟨hk, e, _⟩ := hy hh
  refine ⟨hk, (getN_at hk ?_ e).1⟩
  rw [ht, List.any_eq_false]
  intro x hx
  have := of_decide_eq_true (List.mem_filter.1 hx).2
  simp; omega

/-- The document's ways. -/
theorem dropN_eq (l : List Nd) (n : Int) (hs : riseP l) : l.filter (fun e => e.ino != n) = dropN l n := by
  induction l with
  | nil => rfl
  | cons e t ih =>
    obtain ⟨h1, h2⟩ := List.pairwise_cons.1 hs
    have ih := ih h2
    unfold dropN aheadN behindN at *
    by_cases hc : e.ino < n
    · rw [List.filter_cons_of_pos (p := fun x : Nd => x.ino != n) (by simp; omega), List.filter_cons_of_pos (p := fun x : Nd => decide (x.ino < n)) (by simpa using hc), List.filter_cons_of_neg (p := fun x : Nd => decide (n < x.ino)) (by simp; omega), ih]; rfl
    · have ha : t.filter (fun x => decide (x.ino < n)) = [] := filtN_none fun x hx => decide_eq_false (by have := h1 x hx; omega)
      rw [ha] at ih
      rw [List.filter_cons_of_neg (p := fun x : Nd => decide (x.ino < n)) (by simpa using hc), ha]
      by_cases he : e.ino = n
      · rw [List.filter_cons_of_neg (p := fun x : Nd => x.ino != n) (by simp [he]), List.filter_cons_of_neg (p := fun x : Nd => decide (n < x.ino)) (by simp [he]), ih]
      · rw [List.filter_cons_of_pos (p := fun x : Nd => x.ino != n) (by simpa using he), List.filter_cons_of_pos (p := fun x : Nd => decide (n < x.ino)) (by simp; omega), ih]; rfl
theorem drop_rise {l : List Nd} (n : Int) (hs : riseP l) : riseP (dropN l n) := by
  rw [← dropN_eq l n hs]; exact hs.filter _
theorem set_rise {l : List Nd} (x : Nd) (hs : riseP l) : riseP (setN l x) := by
  unfold setN aheadN behindN
  refine List.pairwise_append.2 ⟨hs.filter _, List.pairwise_cons.2 ⟨fun b hb => of_decide_eq_true (List.mem_filter.1 hb).2, hs.filter _⟩, fun a ha b hb => ?_⟩
  have h1 := of_decide_eq_true (List.mem_filter.1 ha).2
  rcases List.mem_cons.1 hb with rfl | hb
  · exact h1
  · have h2 := of_decide_eq_true (List.mem_filter.1 hb).2; omega

/-- The rounds of the document's Set, over what is left of the table: what has come of the first k, and whether x was put. -/
def insN (x : Nd) : List Nd → List Nd × Bool
  | [] => ([], false)
  | e :: r => if x.ino < e.ino then (x :: e :: r, true) else (e :: (insN x r).1, (insN x r).2)
theorem insN_snoc (x : Nd) (l : List Nd) (e : Nd) : insN x (l ++ [e]) = if (insN x l).2 = true then ((insN x l).1 ++ [e], true) else if x.ino < e.ino then ((insN x l).1 ++ [x, e], true) else ((insN x l).1 ++ [e], false) := by
  induction l with
  | nil => simp [insN]
  | cons a r ih =>
    simp only [List.cons_append, insN]
    by_cases h : x.ino < a.ino
    · simp [h]
    · simp only [h, if_false, ih]
      split
      · rfl
      · split <;> rfl
theorem insN_next (x : Nd) {l : List Nd} {k : Nat} (h : k < l.length) : insN x (l.take (k + 1)) = if (insN x (l.take k)).2 = true then ((insN x (l.take k)).1 ++ [l[k]], true) else if x.ino < l[k].ino then ((insN x (l.take k)).1 ++ [x, l[k]], true) else ((insN x (l.take k)).1 ++ [l[k]], false) := by
  rw [List.take_succ_eq_append_getElem h, insN_snoc]
theorem ins_len (x : Nd) (l : List Nd) : (insN x l).1.length ≤ l.length + 1 := by
  induction l with
  | nil => simp [insN]
  | cons a r ih =>
    simp only [insN]
    split
    · simp
    · simp; exact ih
theorem ins_mem (x : Nd) (l : List Nd) (e : Nd) (h : e ∈ (insN x l).1) : e = x ∨ e ∈ l := by
  induction l with
  | nil => simp [insN] at h
  | cons a r ih =>
    simp only [insN] at h
    split at h
    · rcases List.mem_cons.1 h with h | h
      · exact .inl h
      · exact .inr h
    · rcases List.mem_cons.1 h with h | h
      · exact .inr (by simp [h])
      · rcases ih h with h | h
        · exact .inl h
        · exact .inr (by simp [h])
def finN (x : Nd) (l : List Nd) : List Nd := if (insN x l).2 = true then (insN x l).1 else (insN x l).1 ++ [x]
theorem fin_cons_lt {x e : Nd} {r : List Nd} (h : x.ino < e.ino) : finN x (e :: r) = x :: e :: r := by simp [finN, insN, h]
theorem fin_cons_ge {x e : Nd} {r : List Nd} (h : ¬ x.ino < e.ino) : finN x (e :: r) = e :: finN x r := by
  simp only [finN, insN, h, if_false]
  split <;> rfl
theorem fin_eq (x : Nd) (l : List Nd) : finN x (dropN l x.ino) = setN l x := by
  unfold dropN setN
  have hb : finN x (behindN l x.ino) = x :: behindN l x.ino := by
    cases h : behindN l x.ino with
    | nil => rfl
    | cons e r =>
      have : e ∈ behindN l x.ino := by rw [h]; simp
      exact fin_cons_lt (of_decide_eq_true (List.mem_filter.1 this).2)
  have ha : ∀ e ∈ aheadN l x.ino, e.ino < x.ino := fun e he => of_decide_eq_true (List.mem_filter.1 he).2
  revert ha
  induction aheadN l x.ino with
  | nil => intro _; exact hb
  | cons e r ih =>
    intro ha
    have := ha e (by simp)
    rw [List.cons_append, fin_cons_ge (by omega), ih fun e he => ha e (by simp [he])]; rfl

/-- What the rounds of TableHolds keep. -/
def HoldsInv (F kept : List Nd) : Prop := riseP F ∧ F.Perm kept
theorem holds_start : HoldsInv [] [] := ⟨List.Pairwise.nil, List.Perm.refl _⟩
theorem set_perm {l : List Nd} (x : Nd) (hs : riseP l) : (setN l x).Perm (l.filter (fun e => e.ino != x.ino) ++ [x]) := by
  rw [dropN_eq l x.ino hs]
  unfold setN dropN
  rw [List.append_assoc]
  exact (List.Perm.append_left _ (List.perm_append_comm (l₁ := [x]) (l₂ := behindN l x.ino)))
theorem holds_set {F kept : List Nd} (h : HoldsInv F kept) (x : Nd) : HoldsInv (setN F x) (kept.filter (fun e => e.ino != x.ino) ++ [x]) :=
  ⟨set_rise x h.1, (set_perm x h.1).trans ((h.2.filter _).append_right _)⟩
theorem holds_drop {F kept : List Nd} (h : HoldsInv F kept) (x : Nd) : HoldsInv (dropN (setN F x) x.ino) (kept.filter (fun e => e.ino != x.ino)) := by
  have h1 := holds_set h x
  refine ⟨drop_rise _ h1.1, ?_⟩
  rw [← dropN_eq _ _ h1.1]
  have := h1.2.filter (fun e => e.ino != x.ino)
  rw [List.filter_append, List.filter_filter] at this
  simpa using this
theorem holds_get {F kept : List Nd} (h : HoldsInv F kept) {k : Nat} (hk : k < kept.length) : hasN F kept[k].ino = true ∧ getN F kept[k].ino = kept[k] := by
  have hm : kept[k] ∈ F := h.2.mem_iff.2 (List.getElem_mem hk)
  obtain ⟨i, hi, e⟩ := List.getElem_of_mem hm
  have hno : (F.take i).any (fun e => e.ino == kept[k].ino) = false := by
    rw [List.any_eq_false]; intro y hy
    obtain ⟨j, hj, rfl⟩ := List.getElem_of_mem hy
    have hji : j < i := by simp at hj; omega
    have := List.pairwise_iff_getElem.1 h.1 j i (by omega) hi hji
    rw [List.getElem_take, ← e]; simp; omega
  have := getN_at hi hno (by rw [e])
  exact ⟨this.2, this.1.trans e⟩
theorem holds_len {F kept : List Nd} (h : HoldsInv F kept) : F.length = kept.length := h.2.length_eq
theorem filtN_next {l : List Nd} {n : Int} {k : Nat} (h : k < l.length) : (l.take (k + 1)).filter (fun e => e.ino != n) = (l.take k).filter (fun e => e.ino != n) ++ (if l[k].ino != n then [l[k]] else []) := by
  rw [List.take_succ_eq_append_getElem h, List.filter_append]; congr 1; simp only [List.filter_cons, List.filter_nil]
def fewX (x : Nd) : Bool := decide (x.data.length ≤ 5000) && decide (x.ents.length ≤ 40) && x.ents.all (fun e => decide (e.1.length ≤ 300))
def fewN (l : List Nd) : Bool := decide (l.length ≤ 40) && l.all fewX
theorem fewN_no {l : List Nd} {k : Nat} (h : k < l.length) (hx : fewX l[k] = false) : fewN l = false := by
  unfold fewN
  rw [show l.all fewX = false from by rw [List.all_eq_false]; exact ⟨_, List.getElem_mem h, by rw [hx]; simp⟩, Bool.and_false]
theorem fewN_end {l : List Nd} {k : Nat} (h : ∀ j (hj : j < l.length), j < k → fewX l[j] = true) (hk : ¬ (k < l.length ∧ k < 100)) : fewN l = decide (l.length ≤ 40) := by
  unfold fewN
  by_cases h40 : l.length ≤ 40
  · rw [show l.all fewX = true from by rw [List.all_eq_true]; intro x hx; obtain ⟨i, hi, rfl⟩ := List.getElem_of_mem hx; exact h i hi (by omega), Bool.and_true]
  · rw [decide_eq_false h40, Bool.false_and]
theorem fewX_no1 {x : Nd} (h : ¬ x.data.length ≤ 5000) : fewX x = false := by unfold fewX; rw [decide_eq_false h]; rfl
theorem fewX_no2 {x : Nd} (h : ¬ x.ents.length ≤ 40) : fewX x = false := by unfold fewX; rw [decide_eq_false h, Bool.and_false]; rfl
theorem fewX_no3 {x : Nd} {m : Nat} (hm : m < x.ents.length) (h : ¬ x.ents[m].1.length ≤ 300) : fewX x = false := by
  unfold fewX
  rw [show x.ents.all (fun e => decide (e.1.length ≤ 300)) = false from by rw [List.all_eq_false]; exact ⟨_, List.getElem_mem hm, by simpa using h⟩, Bool.and_false]
theorem fewX_yes {x : Nd} (h1 : x.data.length ≤ 5000) (h2 : x.ents.length ≤ 40) (h3 : ∀ i (hi : i < x.ents.length), x.ents[i].1.length ≤ 300) : fewX x = true := by
  unfold fewX
  rw [decide_eq_true h1, decide_eq_true h2, show x.ents.all (fun e => decide (e.1.length ≤ 300)) = true from by
    rw [List.all_eq_true]; intro e he; obtain ⟨i, hi, rfl⟩ := List.getElem_of_mem he; exact decide_eq_true (h3 i hi)]; rfl
theorem fewN_small {l : List Nd} (h : fewN l = true) : l.length ≤ 40 ∧ ∀ x ∈ l, x.data.length ≤ 5000 := by
  unfold fewN at h
  rw [Bool.and_eq_true, decide_eq_true_eq, List.all_eq_true] at h
  refine ⟨h.1, fun x hx => ?_⟩
  have := h.2 x hx
  unfold fewX at this
  simp only [Bool.and_eq_true, decide_eq_true_eq] at this
  exact this.1.1
end Go.Proofs.YtoejjdebfjepaaaGreat

/- What a table's inodes cost, as lists. No program's function. -/
set_option linter.unusedVariables false
set_option linter.unusedSimpArgs false
namespace Go.Proofs.YtoejjdebfjepaaaGreat

def costN (x : Nd) : Nat := if x.kind = 1 then x.data.length else 0
def bytesN : List Nd → Nat
  | [] => 0
  | x :: l => costN x + bytesN l
theorem bytesN_append (a b : List Nd) : bytesN (a ++ b) = bytesN a + bytesN b := by
  induction a with
  | nil => simp [bytesN]
  | cons x l ih => simp [bytesN, ih]; omega
theorem bytesN_next {l : List Nd} {k : Nat} (h : k < l.length) : bytesN (l.take (k + 1)) = bytesN (l.take k) + costN l[k] := by
  rw [List.take_succ_eq_append_getElem h, bytesN_append]; simp [bytesN]
theorem bytesN_take (l : List Nd) (k : Nat) : bytesN (l.take k) ≤ bytesN l := by
  have := bytesN_append (l.take k) (l.drop k)
  rw [List.take_append_drop] at this; omega
theorem bytesN_end (l : List Nd) : bytesN (l.take l.length) = bytesN l := by rw [List.take_length]
theorem costN_le (x : Nd) : costN x ≤ x.data.length := by unfold costN; split <;> omega
theorem costN_no {x : Nd} (h : ¬ x.kind = 1) : costN x = 0 := by simp [costN, h]
theorem costN_yes {x : Nd} (h : x.kind = 1) : costN x = x.data.length := by simp [costN, h]
theorem bytesN_few {l : List Nd} {m : Nat} (h : ∀ x ∈ l, x.data.length ≤ m) : bytesN l ≤ l.length * m := by
  induction l with
  | nil => simp [bytesN]
  | cons x l ih =>
    have h1 := ih fun y hy => h y (by simp [hy])
    have h2 := h x (by simp)
    have h3 := costN_le x
    simp only [bytesN, List.length_cons, Nat.add_mul]; omega
def fitsB (mi mb : Int) (l : List Nd) (i b : Int) : Bool := decide ((l.length : Int) + i ≤ mi) && decide ((bytesN l : Int) + b ≤ mb)

/-- One file more, wherever it is put. -/
theorem bytesN_perm {a b : List Nd} (h : a.Perm b) : bytesN a = bytesN b := by
  induction h with
  | nil => rfl
  | cons x _ ih => simp [bytesN, ih]
  | swap x y l => simp [bytesN]; omega
  | trans _ _ h1 h2 => exact h1.trans h2
theorem ins_perm (x : Nd) (l : List Nd) : (finN x l).Perm (x :: l) := by
  induction l with
  | nil => exact List.Perm.refl _
  | cons e r ih =>
    by_cases h : x.ino < e.ino
    · rw [fin_cons_lt h]
    · rw [fin_cons_ge h]
      exact (List.Perm.cons e ih).trans (List.Perm.swap x e r)
theorem fin_bytes (x : Nd) (l : List Nd) : bytesN (finN x l) = costN x + bytesN l := by rw [bytesN_perm (ins_perm x l)]; rfl
theorem fin_len (x : Nd) (l : List Nd) : (finN x l).length = l.length + 1 := by rw [(ins_perm x l).length_eq]; rfl
theorem filt_not {l : List Nd} {n : Int} (h : hasN l n = false) : l.filter (fun e => e.ino != n) = l := by
  refine filtN_all fun e he => ?_
  have := List.any_eq_false.1 h e he
  simpa [bne] using this
theorem fits_more {mi mb : Int} {l : List Nd} {x : Nd} (hx : x.kind = 1) (i b : Int) : fitsB mi mb (finN x l) i b = fitsB mi mb l (i + 1) (b + (x.data.length : Int)) := by
  unfold fitsB
  rw [fin_len, fin_bytes, costN_yes hx]
  congr 2
  · rw [show ((l.length + 1 : Nat) : Int) + i = (l.length : Int) + (i + 1) from by omega]
  · rw [show ((x.data.length + bytesN l : Nat) : Int) + b = (bytesN l : Int) + (b + (x.data.length : Int)) from by omega]
theorem fits_less {mi mb : Int} {l : List Nd} {i b : Int} (h : fitsB mi mb l (i + 1) b = true) : fitsB mi mb l i b = true := by
  simp only [fitsB, Bool.and_eq_true, decide_eq_true_eq] at h ⊢
  omega
end Go.Proofs.YtoejjdebfjepaaaGreat

/- Whether a file system is whole, as lists: the document's six rules. No program's function. -/
set_option linter.unusedVariables false
set_option linter.unusedSimpArgs false
namespace Go.Proofs.YtoejjdebfjepaaaGreat

theorem allT_next {α : Type} {l : List α} {p : α → Bool} {k : Nat} (h : k < l.length) (ht : (l.take k).all p = true) (hp : p l[k] = true) : (l.take (k + 1)).all p = true := by
  rw [List.take_succ_eq_append_getElem h, List.all_append, ht]; simp [hp]
theorem all_no {α : Type} {l : List α} {p : α → Bool} {k : Nat} (h : k < l.length) (hp : p l[k] = false) : l.all p = false := by
  rw [List.all_eq_false]; exact ⟨_, List.getElem_mem h, by simp [hp]⟩
theorem allT_end {α : Type} {l : List α} {p : α → Bool} (ht : (l.take l.length).all p = true) : l.all p = true := by rwa [List.take_length] at ht

/-- Rule 1. -/
def limB (mi mb nx : Int) : Bool := decide (1 ≤ mi) && decide (mi ≤ 1073741824) && decide (0 ≤ mb) && decide (mb ≤ 1073741824) && decide (nx ≤ 1099511627776)
def inoB (nx : Int) (x : Nd) : Bool := decide (1 ≤ x.ino) && decide (x.ino < nx)
def rootB (l : List Nd) : Bool := riseN l && hasN l 1 && ((getN l 1).kind == 2)
def firstB (mi mb nx : Int) (l : List Nd) : Bool := limB mi mb nx && l.all (inoB nx) && rootB l
/-- Rule 2. -/
def secondX (x : Nd) : Bool :=
  if x.kind = 2 then x.data.isEmpty && rightB x.ents
  else if x.kind = 1 then x.ents.isEmpty && decide (x.parent = 0)
  else if x.kind = 3 then x.ents.isEmpty && decide (x.parent = 0) && decide (1 ≤ x.data.length) && decide (x.data.length ≤ 4095) && x.data.all (fun c => c != 0)
  else false
def secondB (l : List Nd) : Bool := l.all secondX
/-- Rule 3. -/
def thirdX (l : List Nd) (x : Nd) : Bool := x.ents.all (fun e => hasN l e.2)
def thirdB (l : List Nd) : Bool := l.all (thirdX l)
/-- Who names whom: each entry, with the number of its directory. -/
def pairsN (l : List Nd) : List (Int × Ent) := l.flatMap (fun x => x.ents.map (fun e => (x.ino, e)))
def cntP (ps : List (Int × Ent)) (i : Int) : Nat := ps.countP (fun p => p.2.2 == i)
def lastP (ps : List (Int × Ent)) (i : Int) : Int := ((ps.filter (fun p => p.2.2 == i)).getLast?.map (·.1)).getD 0
def namesN (l : List Nd) (i : Int) : Nat := cntP (pairsN l) i
def inN (l : List Nd) (i : Int) : Int := lastP (pairsN l) i
theorem cntP_next (ps : List (Int × Ent)) (p : Int × Ent) (i : Int) : cntP (ps ++ [p]) i = if p.2.2 == i then cntP ps i + 1 else cntP ps i := by
  simp only [cntP, List.countP_append, List.countP_cons, List.countP_nil]
  split <;> omega
theorem lastP_next (ps : List (Int × Ent)) (p : Int × Ent) (i : Int) : lastP (ps ++ [p]) i = if p.2.2 == i then p.1 else lastP ps i := by
  simp only [lastP, List.filter_append]
  cases h : (p.2.2 == i) <;> simp [h]
def pairsT (l : List Nd) (k m : Nat) : List (Int × Ent) := pairsN (l.take k) ++ ((l[k]?.map (fun x => (x.ents.take m).map (fun e => (x.ino, e)))).getD [])
theorem pairsT_zero (l : List Nd) (k : Nat) : pairsT l k 0 = pairsN (l.take k) := by
  unfold pairsT
  cases l[k]? <;> simp
theorem pairsT_next {l : List Nd} {k m : Nat} (h : k < l.length) (hm : m < l[k].ents.length) : pairsT l k (m + 1) = pairsT l k m ++ [(l[k].ino, l[k].ents[m])] := by
  unfold pairsT
  rw [List.getElem?_eq_getElem h, Option.map_some, Option.map_some, Option.getD_some, Option.getD_some, List.take_succ_eq_append_getElem hm, List.map_append, ← List.append_assoc]
  rfl
theorem pairsT_end {l : List Nd} {k : Nat} (h : k < l.length) : pairsT l k l[k].ents.length = pairsN (l.take (k + 1)) := by
  unfold pairsT
  rw [List.getElem?_eq_getElem h, Option.map_some, Option.getD_some, List.take_length, List.take_succ_eq_append_getElem h]
  unfold pairsN
  rw [List.flatMap_append]
  simp only [List.flatMap_cons, List.flatMap_nil, List.append_nil]
theorem pairs_all (l : List Nd) : pairsN (l.take l.length) = pairsN l := by rw [List.take_length]
theorem pairs_len (l : List Nd) {m : Nat} (h : ∀ x ∈ l, x.ents.length ≤ m) : (pairsN l).length ≤ l.length * m := by
  unfold pairsN
  induction l with
  | nil => simp
  | cons x r ih =>
    have h1 := ih fun y hy => h y (by simp [hy])
    have h2 := h x (by simp)
    simp only [List.flatMap_cons, List.length_append, List.length_map, List.length_cons, Nat.add_mul]; omega
theorem cntP_le (ps : List (Int × Ent)) (i : Int) : cntP ps i ≤ ps.length := List.countP_le_length
theorem pairsT_len (l : List Nd) (k m : Nat) : (pairsT l k m).length ≤ (pairsN l).length := by
  rcases Nat.lt_or_ge k l.length with h | h
  · have e : pairsN l = pairsN (l.take k) ++ (l[k].ents.map (fun e => (l[k].ino, e)) ++ pairsN (l.drop (k + 1))) := by
      have e0 : l = l.take k ++ l[k] :: l.drop (k + 1) := by rw [← List.drop_eq_getElem_cons h, List.take_append_drop]
      conv => lhs; rw [e0]
      unfold pairsN
      rw [List.flatMap_append, List.flatMap_cons]
    unfold pairsT
    rw [List.getElem?_eq_getElem h, Option.map_some, Option.getD_some, e]
    simp only [List.length_append, List.length_map, List.length_take]
    omega
  · unfold pairsT
    rw [List.getElem?_eq_none h, List.take_of_length_le h]
    simp
/-- Rule 4. -/
def fourthX (l : List Nd) (x : Nd) : Bool :=
  decide (x.links = (namesN l x.ino : Int)) &&
    (if x.ino = 1 then decide (namesN l x.ino = 0) && decide (x.parent = 1)
     else decide (1 ≤ namesN l x.ino) && (if x.kind = 2 then decide (namesN l x.ino = 1) && decide (x.parent = inN l x.ino) else true))
def fourthB (l : List Nd) : Bool := l.all (fourthX l)
/-- Rule 5: rounds. -/
def seeB (s : List Int) : List Ent → List Int
  | [] => s
  | e :: r => seeB (if s.contains e.2 then s else s ++ [e.2]) r
theorem see_snoc (s : List Int) (es : List Ent) (e : Ent) : seeB s (es ++ [e]) = if (seeB s es).contains e.2 then seeB s es else seeB s es ++ [e.2] := by
  induction es generalizing s with
  | nil => rfl
  | cons a r ih => exact ih _
theorem see_next {es : List Ent} {m : Nat} (s : List Int) (h : m < es.length) : seeB s (es.take (m + 1)) = if (seeB s (es.take m)).contains es[m].2 then seeB s (es.take m) else seeB s (es.take m) ++ [es[m].2] := by
  rw [List.take_succ_eq_append_getElem h, see_snoc]
def bfsN (l : List Nd) : Nat → List Int
  | 0 => [1]
  | k + 1 => match (bfsN l k)[k]? with
    | some i => seeB (bfsN l k) (getN l i).ents
    | none => bfsN l k
theorem bfs_next {l : List Nd} {k : Nat} (h : k < (bfsN l k).length) : bfsN l (k + 1) = seeB (bfsN l k) (getN l (bfsN l k)[k]).ents := by
  show (match (bfsN l k)[k]? with | some i => _ | none => _) = _
  rw [List.getElem?_eq_getElem h]
theorem bfs_stop {l : List Nd} {k : Nat} (h : (bfsN l k).length ≤ k) : ∀ j, bfsN l (k + j) = bfsN l k := by
  intro j
  induction j with
  | zero => rfl
  | succ j ih =>
    have e : bfsN l (k + (j + 1)) = match (bfsN l (k + j))[k + j]? with | some i => seeB (bfsN l (k + j)) (getN l i).ents | none => bfsN l (k + j) := rfl
    rw [e, ih, List.getElem?_eq_none (by omega)]
def fifthB (l : List Nd) : Bool := decide ((bfsN l (l.length + 1)).length = l.length)
theorem see_has (s : List Int) (es : List Ent) (P : Int → Prop) (hs : ∀ i ∈ s, P i) (he : ∀ e ∈ es, P e.2) : ∀ i ∈ seeB s es, P i := by
  induction es generalizing s with
  | nil => exact hs
  | cons e r ih =>
    refine ih _ ?_ (fun x hx => he x (by simp [hx]))
    intro i hi
    split at hi
    · exact hs i hi
    · rcases List.mem_append.1 hi with h | h
      · exact hs i h
      · rw [List.mem_singleton.1 h]; exact he e (by simp)
theorem see_nodup (s : List Int) (es : List Ent) (hs : s.Nodup) : (seeB s es).Nodup := by
  induction es generalizing s with
  | nil => exact hs
  | cons e r ih =>
    refine ih _ ?_
    split
    · exact hs
    · rename_i h
      rw [List.contains_eq_mem, decide_eq_true_eq] at h
      refine List.nodup_append.2 ⟨hs, by simp, ?_⟩
      intro a ha b hb e2
      rw [List.mem_singleton.1 hb] at e2
      exact h (e2 ▸ ha)
theorem see_len (s : List Int) (es : List Ent) : s.length ≤ (seeB s es).length := by
  induction es generalizing s with
  | nil => exact Nat.le_refl _
  | cons e r ih =>
    refine Nat.le_trans ?_ (ih _)
    split <;> simp
theorem see_prefix (s : List Int) (es : List Ent) : s <+: seeB s es := by
  induction es generalizing s with
  | nil => exact List.prefix_rfl
  | cons e r ih =>
    refine List.IsPrefix.trans ?_ (ih _)
    split
    · exact List.prefix_rfl
    · exact List.prefix_append _ _
theorem get_mem {l : List Nd} {i : Int} (h : hasN l i = true) : getN l i ∈ l ∧ (getN l i).ino = i := by
  unfold hasN at h
  unfold getN
  cases hf : l.find? (fun e => e.ino == i) with
  | none =>
    rw [List.find?_eq_none] at hf
    rw [List.any_eq_true] at h
    obtain ⟨x, hx, hx2⟩ := h
    exact absurd hx2 (by simpa using hf x hx)
  | some x => exact ⟨List.mem_of_find?_eq_some hf, by simpa using List.find?_some hf⟩
theorem get_ents_has {l : List Nd} (h3 : thirdB l = true) (i : Int) : ∀ e ∈ (getN l i).ents, hasN l e.2 = true := by
  intro e he
  cases hh : hasN l i
  · rw [getN_none hh] at he; cases he
  · have hm := (get_mem hh).1
    have := List.all_eq_true.1 h3 _ hm
    exact List.all_eq_true.1 this e he
theorem bfs_has {l : List Nd} (h3 : thirdB l = true) (h1 : hasN l 1 = true) : ∀ k, ∀ i ∈ bfsN l k, hasN l i = true := by
  intro k
  induction k with
  | zero => intro i hi; rw [List.mem_singleton.1 hi]; exact h1
  | succ k ih =>
    rcases Nat.lt_or_ge k (bfsN l k).length with h | h
    · rw [bfs_next h]
      exact see_has _ _ (fun i => hasN l i = true) ih (get_ents_has h3 _)
    · rw [show bfsN l (k + 1) = bfsN l k from bfs_stop h 1]; exact ih
theorem bfs_nodup (l : List Nd) : ∀ k, (bfsN l k).Nodup := by
  intro k
  induction k with
  | zero => simp [bfsN]
  | succ k ih =>
    rcases Nat.lt_or_ge k (bfsN l k).length with h | h
    · rw [bfs_next h]; exact see_nodup _ _ ih
    · rw [show bfsN l (k + 1) = bfsN l k from bfs_stop h 1]; exact ih
theorem has_inos {l : List Nd} {i : Int} (h : hasN l i = true) : i ∈ l.map (·.ino) := List.mem_map.2 ⟨_, (get_mem h).1, (get_mem h).2⟩
theorem len_sub {α : Type} [DecidableEq α] (s : List α) : ∀ (t : List α), s.Nodup → (∀ x ∈ s, x ∈ t) → s.length ≤ t.length := by
  induction s with
  | nil => intro t _ _; simp
  | cons a r ih =>
    intro t hs h
    obtain ⟨h1, h2⟩ := List.nodup_cons.1 hs
    have ha := h a (by simp)
    have := ih (t.erase a) h2 (fun x hx => (List.mem_erase_of_ne (fun e : x = a => h1 (by rw [← e]; exact hx))).2 (h x (by simp [hx])))
    rw [List.length_erase_of_mem ha] at this
    have := List.length_pos_of_mem ha
    simp; omega
theorem bfs_len {l : List Nd} (h3 : thirdB l = true) (h1 : hasN l 1 = true) (k : Nat) : (bfsN l k).length ≤ l.length := by
  have hsub : ∀ i ∈ bfsN l k, i ∈ l.map (·.ino) := fun i hi => has_inos (bfs_has h3 h1 k i hi)
  have := len_sub _ _ (bfs_nodup l k) hsub
  simpa using this
theorem bfs_end {l : List Nd} (h3 : thirdB l = true) (h1 : hasN l 1 = true) {k : Nat} (h : (bfsN l k).length ≤ k) (hk : k ≤ l.length + 1) : bfsN l (l.length + 1) = bfsN l k := by
  have := bfs_stop h (l.length + 1 - k)
  rwa [show k + (l.length + 1 - k) = l.length + 1 from by omega] at this
/-- All six. -/
def checkN (mi mb nx : Int) (l : List Nd) : Int :=
  if firstB mi mb nx l = false then 1 else if secondB l = false then 2 else if thirdB l = false then 3 else if fourthB l = false then 4 else if fifthB l = false then 5 else if fitsB mi mb l 0 0 = false then 6 else 0
def okB (mi mb nx : Int) (l : List Nd) : Bool := fewN l && decide (checkN mi mb nx l = 0)
theorem first_has {mi mb nx : Int} {l : List Nd} (h : firstB mi mb nx l = true) : hasN l 1 = true := by
  simp only [firstB, rootB, Bool.and_eq_true] at h; exact h.2.1.2
end Go.Proofs.YtoejjdebfjepaaaGreat

/- A file system gone through, as lists. No program's function. -/
set_option linter.unusedVariables false
set_option linter.unusedSimpArgs false
namespace Go.Proofs.YtoejjdebfjepaaaGreat

def underB (p n : List UInt8) : List UInt8 := if p = [47] then p ++ n else p ++ [47] ++ n
theorem under_len (p n : List UInt8) : (underB p n).length ≤ p.length + 1 + n.length := by unfold underB; split <;> simp <;> omega
/-- The walk from an inode, by a path, so deep at most. -/
def belowN (l : List Nd) : Nat → Int → List UInt8 → List Ent
  | 0, _, _ => []
  | d + 1, i, p => if hasN l i = true then (p, i) :: (getN l i).ents.flatMap (fun e => belowN l d e.2 (underB p e.1)) else []
def listN (l : List Nd) : List Ent := belowN l (l.length + 1) 1 [47]
def goneN (l : List Nd) (d : Nat) (i : Int) (p : List UInt8) (k : Nat) : List Ent := (p, i) :: ((getN l i).ents.take k).flatMap (fun e => belowN l d e.2 (underB p e.1))
theorem below_no {l : List Nd} {d : Nat} {i : Int} {p : List UInt8} (h : hasN l i = false) : belowN l d i p = [] := by
  cases d with
  | zero => rfl
  | succ d => unfold belowN; rw [h]; rfl
theorem gone_zero (l : List Nd) (d : Nat) (i : Int) (p : List UInt8) : goneN l d i p 0 = [(p, i)] := by simp [goneN]
theorem gone_next {l : List Nd} {d : Nat} {i : Int} {p : List UInt8} {k : Nat} (h : k < (getN l i).ents.length) : goneN l d i p (k + 1) = goneN l d i p k ++ belowN l d (getN l i).ents[k].2 (underB p (getN l i).ents[k].1) := by
  unfold goneN
  rw [List.take_succ_eq_append_getElem h, List.flatMap_append]
  simp
theorem gone_end {l : List Nd} {d : Nat} {i : Int} {p : List UInt8} (h : hasN l i = true) : goneN l d i p (getN l i).ents.length = belowN l (d + 1) i p := by
  unfold goneN
  rw [List.take_length]
  show _ = if hasN l i = true then _ else _
  rw [if_pos h]
theorem gone_le {l : List Nd} {d : Nat} {i : Int} {p : List UInt8} (h : hasN l i = true) (k : Nat) : (goneN l d i p k).length ≤ (belowN l (d + 1) i p).length := by
  rw [← gone_end h]
  unfold goneN
  rw [List.take_length]
  have e := List.take_append_drop k (getN l i).ents
  conv => rhs; rw [← e]
  rw [List.flatMap_append]
  simp
def pathsN (l : List Nd) (i : Int) : List (List UInt8) := ((listN l).filter (fun e => e.2 == i)).map (·.1)
def pathT (L : List Ent) (i : Int) (k : Nat) : List (List UInt8) := ((L.take k).filter (fun e => e.2 == i)).map (·.1)
theorem pathT_next {L : List Ent} {i : Int} {k : Nat} (h : k < L.length) : pathT L i (k + 1) = if L[k].2 == i then pathT L i k ++ [L[k].1] else pathT L i k := by
  unfold pathT
  rw [List.take_succ_eq_append_getElem h, List.filter_append]
  cases e : (L[k].2 == i) <;> simp [e]
theorem pathT_len (L : List Ent) (i : Int) (k : Nat) : (pathT L i k).length ≤ L.length := by
  unfold pathT
  rw [List.length_map]
  exact Nat.le_trans (List.length_filter_le _ _) (by simp; omega)
theorem pathT_end (L : List Ent) (i : Int) : pathT L i L.length = (L.filter (fun e => e.2 == i)).map (·.1) := by unfold pathT; rw [List.take_length]
end Go.Proofs.YtoejjdebfjepaaaGreat

/- A sound file system is a tree: the levels below Root, each directory on one of them, once. No program's function. -/
set_option linter.unusedVariables false
set_option linter.unusedSimpArgs false
namespace Go.Proofs.YtoejjdebfjepaaaGreat

/-! ### What soundness gives -/
theorem check_parts {mi mb nx : Int} {l : List Nd} (h : checkN mi mb nx l = 0) : firstB mi mb nx l = true ∧ secondB l = true ∧ thirdB l = true ∧ fourthB l = true ∧ fifthB l = true ∧ fitsB mi mb l 0 0 = true := by
  have h2 := h
  clear h
  unfold checkN at h2
  split at h2
  · omega
  split at h2
  · omega
  split at h2
  · omega
  split at h2
  · omega
  split at h2
  · omega
  split at h2
  · omega
  simp_all
theorem ok_check {mi mb nx : Int} {l : List Nd} (h : okB mi mb nx l = true) : checkN mi mb nx l = 0 := by
  unfold okB at h
  rw [Bool.and_eq_true, decide_eq_true_eq] at h
  exact h.2
theorem ok_parts {mi mb nx : Int} {l : List Nd} (h : okB mi mb nx l = true) : fewN l = true ∧ firstB mi mb nx l = true ∧ secondB l = true ∧ thirdB l = true ∧ fourthB l = true ∧ fifthB l = true ∧ fitsB mi mb l 0 0 = true := by
  refine ⟨?_, check_parts (ok_check h)⟩
  unfold okB at h
  rw [Bool.and_eq_true] at h
  exact h.1

def isDir (l : List Nd) (i : Int) : Bool := hasN l i && decide ((getN l i).kind = 2)
def kidsN (l : List Nd) (i : Int) : List Int := (getN l i).ents.map (·.2)
structure Tree (l : List Nd) : Prop where
  rise : riseP l
  root : hasN l 1 = true
  rootDir : (getN l 1).kind = 2
  files : ∀ x ∈ l, x.kind ≠ 2 → x.ents = []
  rights : ∀ x ∈ l, x.kind = 2 → rightB x.ents = true
  there : ∀ x ∈ l, ∀ e ∈ x.ents, hasN l e.2 = true
  noRoot : namesN l 1 = 0
  once : ∀ x ∈ l, x.kind = 2 → x.ino ≠ 1 → namesN l x.ino = 1
  parent : ∀ x ∈ l, x.kind = 2 → x.ino ≠ 1 → x.parent = inN l x.ino
  seen : (bfsN l (l.length + 1)).length = l.length
theorem getN_of {l : List Nd} (hr : riseP l) {x : Nd} (hx : x ∈ l) : getN l x.ino = x ∧ hasN l x.ino = true := by
  obtain ⟨i, hi, e⟩ := List.getElem_of_mem hx
  have := getN_at (n := x.ino) hi (by
    rw [List.any_eq_false]
    intro y hy
    obtain ⟨j, hj, rfl⟩ := List.getElem_of_mem hy
    have hji : j < i := by simp at hj; omega
    have := List.pairwise_iff_getElem.1 hr j i (by omega) hi hji
    rw [List.getElem_take, ← e]; simp; omega) (by rw [e])
  exact ⟨this.1.trans e, this.2⟩
theorem tree_c {mi mb nx : Int} {l : List Nd} (h : checkN mi mb nx l = 0) : Tree l := by
  obtain ⟨h1, h2, h3, h4, h5, _⟩ := check_parts h
  have hf := h1
  simp only [firstB, rootB, Bool.and_eq_true, beq_iff_eq] at hf
  have hr := (riseN_iff l).1 hf.2.1.1
  have h2' := fun x hx => List.all_eq_true.1 h2 x hx
  have h4' := fun x hx => List.all_eq_true.1 h4 x hx
  have hroot := get_mem hf.2.1.2
  refine ⟨hr, hf.2.1.2, hf.2.2, ?_, ?_, ?_, ?_, ?_, ?_, by simpa [fifthB] using h5⟩
  · intro x hx hk
    have := h2' x hx
    unfold secondX at this
    rw [if_neg hk] at this
    split at this
    · simp only [Bool.and_eq_true, List.isEmpty_iff] at this; exact this.1
    · split at this
      · simp only [Bool.and_eq_true, List.isEmpty_iff] at this; exact this.1.1.1.1
      · cases this
  · intro x hx hk
    have := h2' x hx
    unfold secondX at this
    rw [if_pos hk, Bool.and_eq_true] at this
    exact this.2
  · intro x hx e he
    exact List.all_eq_true.1 (List.all_eq_true.1 h3 x hx) e he
  · have := h4' _ hroot.1
    unfold fourthX at this
    rw [hroot.2, if_pos rfl] at this
    simp only [Bool.and_eq_true, decide_eq_true_eq] at this
    exact this.2.1
  · intro x hx hk hi
    have := h4' _ hx
    unfold fourthX at this
    rw [if_neg hi, if_pos hk] at this
    simp only [Bool.and_eq_true, decide_eq_true_eq] at this
    exact this.2.2.1
  · intro x hx hk hi
    have := h4' _ hx
    unfold fourthX at this
    rw [if_neg hi, if_pos hk] at this
    simp only [Bool.and_eq_true, decide_eq_true_eq] at this
    exact this.2.2.2

theorem tree_of {mi mb nx : Int} {l : List Nd} (h : okB mi mb nx l = true) : Tree l := tree_c (ok_check h)
/-! ### Levels -/
def lvN (l : List Nd) : Nat → List Int → List Int
  | 0, L => L
  | d + 1, L => (lvN l d L).flatMap (kidsN l)
/-- All that is come to in so many levels. -/
def visN (l : List Nd) : Nat → List Int → List Int
  | 0, _ => []
  | d + 1, L => L ++ visN l d (L.flatMap (kidsN l))
theorem lv_in (l : List Nd) (d : Nat) (L : List Int) : lvN l (d + 1) L = lvN l d (L.flatMap (kidsN l)) := by
  induction d with
  | zero => rfl
  | succ d ih => show (lvN l (d + 1) L).flatMap _ = _; rw [ih]; rfl
theorem vis_out (l : List Nd) (d : Nat) : ∀ L, visN l (d + 1) L = L ++ (visN l d L).flatMap (kidsN l) := by
  induction d with
  | zero => intro L; simp [visN]
  | succ d ih =>
    intro L
    show L ++ visN l (d + 1) (L.flatMap (kidsN l)) = _
    rw [ih]
    show _ = L ++ (L ++ visN l d (L.flatMap (kidsN l))).flatMap (kidsN l)
    rw [List.flatMap_append]
theorem vis_lv (l : List Nd) (d : Nat) (L : List Int) : visN l (d + 1) L = visN l d L ++ lvN l d L := by
  induction d generalizing L with
  | zero => simp [visN, lvN]
  | succ d ih =>
    show L ++ visN l (d + 1) (L.flatMap (kidsN l)) = (L ++ visN l d (L.flatMap (kidsN l))) ++ _
    rw [ih, lv_in, List.append_assoc]
theorem kids_dir {l : List Nd} (t : Tree l) {i : Int} (h : kidsN l i ≠ []) : isDir l i = true := by
  unfold kidsN at h
  cases hh : hasN l i
  · rw [getN_none hh] at h; exact absurd rfl h
  · have hm := get_mem hh
    unfold isDir
    rw [hh, Bool.true_and, decide_eq_true_eq]
    refine Decidable.byContradiction fun hk => ?_
    rw [t.files _ hm.1 hk] at h
    exact h rfl
theorem sum_sub (f : Int → Nat) (s : List Int) : ∀ (t : List Int), s.Nodup → (∀ x ∈ s, x ∈ t) → (s.map f).sum ≤ (t.map f).sum := by
  induction s with
  | nil => intro t _ _; simp
  | cons a r ih =>
    intro t hs h
    obtain ⟨h1, h2⟩ := List.nodup_cons.1 hs
    have ha := h a (by simp)
    have h3 := ih (t.erase a) h2 (fun x hx => (List.mem_erase_of_ne (fun e : x = a => h1 (by rw [← e]; exact hx))).2 (h x (by simp [hx])))
    have h4 := ((List.perm_cons_erase ha).map f).sum_nat
    simp only [List.map_cons, List.sum_cons] at h4 ⊢
    omega
theorem sum_filter (f : Int → Nat) (s : List Int) (p : Int → Bool) (h : ∀ i ∈ s, p i = false → f i = 0) : (s.map f).sum = ((s.filter p).map f).sum := by
  induction s with
  | nil => rfl
  | cons a r ih =>
    have := ih fun i hi => h i (by simp [hi])
    rw [List.filter_cons]
    split
    · simp only [List.map_cons, List.sum_cons, this]
    · rename_i hp
      simp only [List.map_cons, List.sum_cons, this, h a (by simp) (by simpa using hp), Nat.zero_add]
theorem nodup_count {s : List Int} (p : Int → Bool) (h : ∀ j, p j = true → s.count j ≤ 1) : (s.filter p).Nodup := by
  rw [List.nodup_iff_count]
  intro a
  cases hp : p a
  · rw [List.count_eq_zero_of_not_mem (by simp [hp])]; omega
  · rw [List.count_filter hp]; exact h a hp
theorem dir_ino {l : List Nd} {i : Int} (h : isDir l i = true) : i ∈ l.map (·.ino) := by
  unfold isDir at h
  rw [Bool.and_eq_true] at h
  exact has_inos h.1
theorem kids_sum {l : List Nd} (t : Tree l) (f : List Ent → Nat) : ((l.map (·.ino)).map (fun i => f (getN l i).ents)).sum = (l.map (fun x => f x.ents)).sum := by
  rw [List.map_map]
  congr 1
  refine List.map_congr_left fun x hx => ?_
  show f (getN l x.ino).ents = _
  rw [(getN_of t.rise hx).1]
theorem names_sum (l : List Nd) (j : Int) : namesN l j = (l.map (fun x => (x.ents.map (·.2)).count j)).sum := by
  unfold namesN pairsN cntP
  induction l with
  | nil => rfl
  | cons x r ih =>
    rw [List.flatMap_cons, List.countP_append, ih, List.map_cons, List.sum_cons]
    congr 1
    rw [List.countP_map, List.count, List.countP_map]
    rfl
theorem count_flat (L : List Int) (g : Int → List Int) (j : Int) : (L.flatMap g).count j = (L.map (fun i => (g i).count j)).sum := by
  induction L with
  | nil => rfl
  | cons a r ih => rw [List.flatMap_cons, List.count_append, ih]; simp
theorem len_flat (L : List Int) (g : Int → List Int) : (L.flatMap g).length = (L.map (fun i => (g i).length)).sum := by
  induction L with
  | nil => rfl
  | cons a r ih => rw [List.flatMap_cons, List.length_append, ih]; simp
/-- Each directory is come to once at most. -/
theorem vis_once {l : List Nd} (t : Tree l) (d : Nat) : ∀ j, isDir l j = true → (visN l d [1]).count j ≤ 1 := by
  induction d with
  | zero => intro j _; simp [visN]
  | succ d ih =>
    intro j hj
    rw [vis_out, List.count_append, count_flat]
    have h1 : ((visN l d [1]).map (fun i => (kidsN l i).count j)).sum ≤ namesN l j := by
      rw [sum_filter _ _ (isDir l) (fun i _ hi => by
        have : kidsN l i = [] := Decidable.byContradiction fun h => by rw [kids_dir t h] at hi; cases hi
        rw [this]; rfl), names_sum, ← kids_sum t (fun es => (es.map (·.2)).count j)]
      refine sum_sub _ _ _ (nodup_count _ ih) (fun x hx => dir_ino (List.mem_filter.1 hx).2)
    by_cases e : j = 1
    · subst e
      rw [t.noRoot] at h1
      simp; omega
    · have hm : hasN l j = true := by unfold isDir at hj; rw [Bool.and_eq_true] at hj; exact hj.1
      have hg := get_mem hm
      have hk : (getN l j).kind = 2 := by unfold isDir at hj; rw [Bool.and_eq_true, decide_eq_true_eq] at hj; exact hj.2
      have h2 := t.once _ hg.1 hk (by rw [hg.2]; exact e)
      rw [hg.2] at h2
      rw [h2] at h1
      have : ([1] : List Int).count j = 0 := List.count_eq_zero_of_not_mem (by simpa using e)
      omega
def entsN (l : List Nd) : Nat := (l.map (fun x => x.ents.length)).sum
theorem vis_len {l : List Nd} (t : Tree l) (d : Nat) : (visN l d [1]).length ≤ 1 + entsN l := by
  cases d with
  | zero => simp [visN]
  | succ d =>
    rw [vis_out, List.length_append, len_flat]
    have h1 : ((visN l d [1]).map (fun i => (kidsN l i).length)).sum ≤ entsN l := by
      rw [sum_filter _ _ (isDir l) (fun i _ hi => by
        have : kidsN l i = [] := Decidable.byContradiction fun h => by rw [kids_dir t h] at hi; cases hi
        rw [this]; rfl)]
      unfold entsN
      rw [← kids_sum t (fun es => es.length)]
      have := sum_sub (fun i => (kidsN l i).length) _ _ (nodup_count _ (vis_once t d)) (fun x hx => dir_ino (List.mem_filter.1 hx).2)
      simpa [kidsN] using this
    simpa using h1
end Go.Proofs.YtoejjdebfjepaaaGreat

/- The walk of a sound file system: what it comes to, how often, how deep. No program's function. -/
set_option linter.unusedVariables false
set_option linter.unusedSimpArgs false
namespace Go.Proofs.YtoejjdebfjepaaaGreat

theorem vis_nil (l : List Nd) (d : Nat) : visN l d [] = [] := by
  induction d with
  | zero => rfl
  | succ d ih => show [] ++ visN l d ([].flatMap (kidsN l)) = []; simpa using ih
theorem vis_append (l : List Nd) (d : Nat) : ∀ A B, (visN l d (A ++ B)).Perm (visN l d A ++ visN l d B) := by
  induction d with
  | zero => intro A B; exact List.Perm.refl _
  | succ d ih =>
    intro A B
    show ((A ++ B) ++ visN l d ((A ++ B).flatMap (kidsN l))).Perm ((A ++ visN l d (A.flatMap (kidsN l))) ++ (B ++ visN l d (B.flatMap (kidsN l))))
    rw [List.flatMap_append]
    refine (List.Perm.append_left _ (ih _ _)).trans ?_
    rw [List.append_assoc, List.append_assoc]
    refine List.Perm.append_left _ ?_
    rw [← List.append_assoc, ← List.append_assoc]
    exact List.Perm.append_right _ List.perm_append_comm
theorem vis_flat (l : List Nd) (d : Nat) (A : List Int) : (visN l d A).Perm (A.flatMap (fun i => visN l d [i])) := by
  induction A with
  | nil => rw [vis_nil]; exact List.Perm.refl _
  | cons a r ih =>
    have := vis_append l d [a] r
    rw [List.flatMap_cons]
    exact this.trans (List.Perm.append_left _ ih)
/-- What the walk comes to are the levels, taken together. -/
theorem below_perm {l : List Nd} (h3 : ∀ x ∈ l, ∀ e ∈ x.ents, hasN l e.2 = true) (d : Nat) : ∀ i p, hasN l i = true → ((belowN l d i p).map (·.2)).Perm (visN l d [i]) := by
  induction d with
  | zero => intro i p _; exact List.Perm.refl _
  | succ d ih =>
    intro i p hi
    have e1 : belowN l (d + 1) i p = (p, i) :: (getN l i).ents.flatMap (fun e => belowN l d e.2 (underB p e.1)) := by
      show (if hasN l i = true then _ else _) = _
      rw [if_pos hi]
    rw [e1]
    show (i :: ((getN l i).ents.flatMap (fun e => belowN l d e.2 (underB p e.1))).map (·.2)).Perm ([i] ++ visN l d ([i].flatMap (kidsN l)))
    refine List.Perm.cons _ ?_
    have e2 : [i].flatMap (kidsN l) = (getN l i).ents.map (·.2) := by simp [kidsN]
    rw [e2]
    refine List.Perm.trans ?_ (vis_flat l d _).symm
    rw [List.map_flatMap, List.flatMap_map]
    have hm := h3 _ (get_mem hi).1
    revert hm
    induction (getN l i).ents with
    | nil => intro _; exact List.Perm.refl _
    | cons e r ih2 =>
      intro hm
      rw [List.flatMap_cons, List.flatMap_cons]
      exact List.Perm.append (ih e.2 _ (hm e (by simp))) (ih2 fun x hx => hm x (by simp [hx]))
theorem list_len {l : List Nd} (t : Tree l) (d : Nat) (p : List UInt8) : (belowN l d 1 p).length ≤ 1 + entsN l := by
  have := (below_perm t.there d 1 p t.root).length_eq
  rw [List.length_map] at this
  rw [this]
  exact vis_len t d

/-! ### How deep -/
theorem lv_has {l : List Nd} (t : Tree l) (d : Nat) : ∀ i ∈ lvN l d [1], hasN l i = true := by
  induction d with
  | zero => intro i hi; rw [List.mem_singleton.1 hi]; exact t.root
  | succ d ih =>
    intro i hi
    obtain ⟨a, ha, hb⟩ := List.mem_flatMap.1 hi
    obtain ⟨e, he, rfl⟩ := List.mem_map.1 hb
    exact t.there _ (get_mem (ih a ha)).1 e he
theorem lv_down {l : List Nd} {L : List Int} {d : Nat} (h : lvN l (d + 1) L ≠ []) : ∃ i ∈ lvN l d L, kidsN l i ≠ [] := by
  refine Decidable.byContradiction fun hn => h ?_
  show (lvN l d L).flatMap (kidsN l) = []
  rw [List.flatMap_eq_nil_iff]
  intro i hi
  exact Decidable.byContradiction fun hk => hn ⟨i, hi, hk⟩
theorem lv_shorter {l : List Nd} {L : List Int} {d : Nat} (h : lvN l (d + 1) L ≠ []) : lvN l d L ≠ [] := by
  obtain ⟨i, hi, _⟩ := lv_down h
  exact List.ne_nil_of_mem hi
theorem vis_dirs {l : List Nd} (t : Tree l) (L : List Int) (d : Nat) : lvN l d L ≠ [] → d ≤ ((visN l d L).filter (isDir l)).length := by
  induction d with
  | zero => intro _; exact Nat.zero_le _
  | succ d ih =>
    intro h
    obtain ⟨i, hi, hk⟩ := lv_down h
    have h1 := ih (lv_shorter h)
    rw [vis_lv, List.filter_append, List.length_append]
    have h2 : 0 < ((lvN l d L).filter (isDir l)).length := List.length_pos_of_mem (List.mem_filter.2 ⟨hi, kids_dir t hk⟩)
    omega
theorem lv_end {l : List Nd} (t : Tree l) (d : Nat) (h : l.length < d) : lvN l d [1] = [] := by
  refine Decidable.byContradiction fun hn => ?_
  have h1 := vis_dirs t [1] d hn
  have h2 := len_sub _ _ (nodup_count _ (vis_once t d)) (fun x hx => dir_ino (List.mem_filter.1 hx).2)
  rw [List.length_map] at h2
  omega
theorem vis_end {l : List Nd} (t : Tree l) (j : Nat) : visN l (l.length + 1 + j) [1] = visN l (l.length + 1) [1] := by
  induction j with
  | zero => rfl
  | succ j ih => rw [← Nat.add_assoc, vis_lv, ih, lv_end t _ (by omega), List.append_nil]

/-! ### Each inode is on a level -/
theorem lv_add (l : List Nd) (a b : Nat) (L : List Int) : lvN l (a + b) L = lvN l b (lvN l a L) := by
  induction b with
  | zero => rfl
  | succ b ih => show (lvN l (a + b) L).flatMap _ = _; rw [ih]; rfl
theorem see_lv {l : List Nd} (P : Int → Prop) (s : List Int) (es : List Ent) (hs : ∀ i ∈ s, P i) (he : ∀ e ∈ es, P e.2) : ∀ i ∈ seeB s es, P i := see_has s es P hs he
theorem bfs_lv {l : List Nd} (k : Nat) : ∀ i ∈ bfsN l k, ∃ m, i ∈ lvN l m [1] := by
  induction k with
  | zero => intro i hi; exact ⟨0, hi⟩
  | succ k ih =>
    rcases Nat.lt_or_ge k (bfsN l k).length with h | h
    · rw [bfs_next h]
      refine see_has _ _ (fun i => ∃ m, i ∈ lvN l m [1]) ih ?_
      intro e he
      obtain ⟨m, hm⟩ := ih _ (List.getElem_mem h)
      exact ⟨m + 1, List.mem_flatMap.2 ⟨_, hm, List.mem_map.2 ⟨e, he, rfl⟩⟩⟩
    · rw [show bfsN l (k + 1) = bfsN l k from bfs_stop h 1]; exact ih
theorem sub_eq {s t : List Int} (hs : s.Nodup) (h : ∀ x ∈ s, x ∈ t) (hl : t.length ≤ s.length) : ∀ x ∈ t, x ∈ s := by
  intro x hx
  refine Decidable.byContradiction fun hn => ?_
  have := len_sub s (t.erase x) hs (fun y hy => (List.mem_erase_of_ne (fun e : y = x => hn (by rw [← e]; exact hy))).2 (h y hy))
  rw [List.length_erase_of_mem hx] at this
  have := List.length_pos_of_mem hx
  omega
theorem on_level {l : List Nd} (t : Tree l) {i : Int} (h : hasN l i = true) : ∃ m, m ≤ l.length ∧ i ∈ lvN l m [1] := by
  have h3 : thirdB l = true := List.all_eq_true.2 fun x hx => List.all_eq_true.2 fun e he => t.there x hx e he
  have hin : i ∈ bfsN l (l.length + 1) := by
    refine sub_eq (bfs_nodup _ _) (fun z hz => has_inos (bfs_has h3 t.root _ z hz)) (by rw [t.seen]; simp) i (has_inos h)
  obtain ⟨m, hm⟩ := bfs_lv _ i hin
  rcases Nat.lt_or_ge l.length m with h | h
  · rw [lv_end t m h] at hm; cases hm
  · exact ⟨m, h, hm⟩

/-! ### From whatever inode -/
theorem lv_append (l : List Nd) (d : Nat) (A B : List Int) : lvN l d (A ++ B) = lvN l d A ++ lvN l d B := by
  induction d with
  | zero => rfl
  | succ d ih => show (lvN l d (A ++ B)).flatMap _ = _; rw [ih, List.flatMap_append]; rfl
theorem lv_perm {l : List Nd} {A B : List Int} (d : Nat) (h : A.Perm B) : (lvN l d A).Perm (lvN l d B) := by
  induction d with
  | zero => exact h
  | succ d ih => exact ih.flatMap_right _
theorem vis_perm {l : List Nd} (d : Nat) : ∀ {A B : List Int}, A.Perm B → (visN l d A).Perm (visN l d B) := by
  induction d with
  | zero => intro A B _; exact List.Perm.refl _
  | succ d ih => intro A B h; exact h.append (ih (h.flatMap_right _))
theorem vis_add (l : List Nd) (a b : Nat) : ∀ L, visN l (a + b) L = visN l a L ++ visN l b (lvN l a L) := by
  induction a with
  | zero => intro L; rw [Nat.zero_add]; rfl
  | succ a ih =>
    intro L
    rw [show a + 1 + b = (a + b) + 1 from by omega]
    show L ++ visN l (a + b) (L.flatMap (kidsN l)) = (L ++ visN l a (L.flatMap (kidsN l))) ++ _
    rw [ih, List.append_assoc, lv_in]
theorem lv_end_any {l : List Nd} (t : Tree l) {i : Int} (h : hasN l i = true) (d : Nat) (hd : l.length < d) : lvN l d [i] = [] := by
  obtain ⟨m, _, hm⟩ := on_level t h
  have h1 := lv_perm (l := l) d (List.perm_cons_erase hm)
  rw [← lv_add, lv_end t _ (by omega)] at h1
  have h2 := h1.nil_eq
  rw [show i :: (lvN l m [1]).erase i = [i] ++ (lvN l m [1]).erase i from rfl, lv_append] at h2
  exact (List.append_eq_nil_iff.1 h2.symm).1
/-- What is come to from an inode is come to from Root. -/
theorem vis_from {l : List Nd} (t : Tree l) {i : Int} (h : hasN l i = true) (d : Nat) : ∃ C m, (visN l (m + d) [1]).Perm (visN l d [i] ++ C) := by
  obtain ⟨m, _, hm⟩ := on_level t h
  refine ⟨visN l m [1] ++ visN l d ((lvN l m [1]).erase i), m, ?_⟩
  rw [vis_add]
  have h1 := (vis_perm (l := l) d (List.perm_cons_erase hm)).trans (vis_append l d [i] ((lvN l m [1]).erase i))
  refine (List.Perm.append_left _ h1).trans ?_
  rw [← List.append_assoc, ← List.append_assoc]
  exact List.Perm.append_right _ List.perm_append_comm
theorem vis_once_any {l : List Nd} (t : Tree l) {i : Int} (h : hasN l i = true) (d : Nat) (j : Int) (hj : isDir l j = true) : (visN l d [i]).count j ≤ 1 := by
  obtain ⟨C, m, hp⟩ := vis_from t h d
  have h1 := vis_once t (m + d) j hj
  rw [hp.count_eq, List.count_append] at h1
  omega
theorem below_len {l : List Nd} (t : Tree l) (d : Nat) (i : Int) (p : List UInt8) : (belowN l d i p).length ≤ 1 + entsN l := by
  cases h : hasN l i
  · rw [below_no h]; simp
  · have h1 := (below_perm t.there d i p h).length_eq
    obtain ⟨C, m, hp⟩ := vis_from t h d
    have h2 := hp.length_eq
    have h3 := vis_len t (m + d)
    rw [List.length_map] at h1
    rw [List.length_append] at h2
    omega
/-- Deeper than there are inodes it doesn't go. -/
theorem below_stop {l : List Nd} (d : Nat) : ∀ i p, lvN l d [i] = [] → belowN l (d + 1) i p = belowN l d i p := by
  induction d with
  | zero => intro i p h; cases h
  | succ d ih =>
    intro i p h
    rw [lv_in] at h
    have e2 : [i].flatMap (kidsN l) = kidsN l i := by simp
    rw [e2] at h
    have hk : ∀ e ∈ (getN l i).ents, lvN l d [e.2] = [] := by
      intro e he
      have hm : e.2 ∈ kidsN l i := List.mem_map.2 ⟨e, he, rfl⟩
      have h1 := lv_perm (l := l) d (List.perm_cons_erase hm)
      rw [h] at h1
      have h2 := h1.nil_eq
      rw [show e.2 :: (kidsN l i).erase e.2 = [e.2] ++ (kidsN l i).erase e.2 from rfl, lv_append] at h2
      exact (List.append_eq_nil_iff.1 h2.symm).1
    show (if hasN l i = true then _ else _) = (if hasN l i = true then _ else _)
    split
    · congr 1
      have hcongr : ∀ es : List Ent, (∀ e ∈ es, lvN l d [e.2] = []) → es.flatMap (fun e => belowN l (d + 1) e.2 (underB p e.1)) = es.flatMap (fun e => belowN l d e.2 (underB p e.1)) := by
        intro es
        induction es with
        | nil => intro _; rfl
        | cons e r ih2 =>
          intro he
          rw [List.flatMap_cons, List.flatMap_cons, ih e.2 _ (he e (by simp)), ih2 fun x hx => he x (by simp [hx])]
      exact hcongr _ hk
    · rfl
theorem below_more {l : List Nd} (t : Tree l) (i : Int) (p : List UInt8) (j : Nat) : belowN l (l.length + 1 + j) i p = belowN l (l.length + 1) i p := by
  cases h : hasN l i
  · rw [below_no h, below_no h]
  · induction j with
    | zero => rfl
    | succ j ih => rw [← Nat.add_assoc, below_stop _ _ _ (lv_end_any t h _ (by omega)), ih]

/-! ### A directory has one path -/
theorem lv_vis {l : List Nd} {m d : Nat} {L : List Int} (h : m < d) : ∀ i ∈ lvN l m L, i ∈ visN l d L := by
  intro i hi
  obtain ⟨j, rfl⟩ : ∃ j, d = m + (j + 1) := ⟨d - m - 1, by omega⟩
  rw [vis_add]
  exact List.mem_append.2 (.inr (List.mem_append.2 (.inl hi)))
theorem dir_once {l : List Nd} (t : Tree l) {i : Int} (h : isDir l i = true) : ((listN l).map (·.2)).count i = 1 := by
  unfold listN
  rw [(below_perm t.there _ 1 [47] t.root).count_eq]
  have h1 := vis_once t (l.length + 1) i h
  have hh : hasN l i = true := by unfold isDir at h; rw [Bool.and_eq_true] at h; exact h.1
  obtain ⟨m, hm, hi⟩ := on_level t hh
  have h2 := List.count_pos_iff.2 (lv_vis (d := l.length + 1) (by omega) i hi)
  omega
theorem paths_len (l : List Nd) (i : Int) : (pathsN l i).length = ((listN l).map (·.2)).count i := by
  unfold pathsN
  rw [List.length_map, List.count, List.countP_map, List.countP_eq_length_filter]
  rfl
theorem dir_path {l : List Nd} (t : Tree l) {i : Int} (h : isDir l i = true) : (pathsN l i).length = 1 := by rw [paths_len, dir_once t h]
theorem no_path {l : List Nd} (t : Tree l) {i : Int} (h : hasN l i = false) : pathsN l i = [] := by
  have : (pathsN l i).length = 0 := by
    rw [paths_len]
    refine List.count_eq_zero_of_not_mem fun hm => ?_
    unfold listN at hm
    have := (below_perm t.there _ 1 [47] t.root).mem_iff.1 hm
    have hv : ∀ d, ∀ j ∈ visN l d [1], hasN l j = true := by
      intro d
      induction d with
      | zero => intro j hj; cases hj
      | succ d ih =>
        intro j hj
        rw [vis_lv] at hj
        rcases List.mem_append.1 hj with hj | hj
        · exact ih j hj
        · exact lv_has t d j hj
    rw [hv _ i this] at h
    cases h
  exact List.eq_nil_of_length_eq_zero this
end Go.Proofs.YtoejjdebfjepaaaGreat

/- Paths as lists of bytes: their names, the text that parts make, plain paths. No program's function. -/
set_option linter.unusedVariables false
set_option linter.unusedSimpArgs false
namespace Go.Proofs.YtoejjdebfjepaaaGreat

def atomB (a : List UInt8) : List (List UInt8) := if a = [] then [] else [a]
/-- The names that are left to come, 'a' being what has come of the one at hand. -/
def namesA (a : List UInt8) : List UInt8 → List (List UInt8)
  | [] => atomB a
  | c :: r => if c = 47 then atomB a ++ namesA [] r else namesA (a ++ [c]) r
def namesB (l : List UInt8) : List (List UInt8) := namesA [] l

theorem atomB_nil : atomB [] = [] := rfl
theorem atomB_cons {a : List UInt8} (h : a ≠ []) : atomB a = [a] := if_neg h
theorem namesA_nil (a : List UInt8) : namesA a [] = atomB a := rfl
theorem namesA_slash (a r : List UInt8) : namesA a (47 :: r) = atomB a ++ namesA [] r := by simp [namesA]
theorem namesA_byte (a r : List UInt8) {c : UInt8} (h : c ≠ 47) : namesA a (c :: r) = namesA (a ++ [c]) r := by simp [namesA, h]
theorem namesA_run (x : List UInt8) : ∀ (a r : List UInt8), 47 ∉ x → namesA a (x ++ r) = namesA (a ++ x) r := by
  induction x with
  | nil => intro a r _; simp
  | cons c x ih =>
    intro a r h
    rw [List.cons_append, namesA_byte _ _ (fun e => h (by simp [e])), ih _ _ (fun e => h (by simp [e]))]
    simp
theorem namesB_found (x r : List UInt8) (h : 47 ∉ x) : namesB (x ++ 47 :: r) = atomB x ++ namesB r := by
  unfold namesB; rw [namesA_run _ _ _ h, List.nil_append, namesA_slash]
theorem namesB_none (x : List UInt8) (h : 47 ∉ x) : namesB x = atomB x := by
  have := namesA_run x [] [] h
  simpa [namesB, namesA_nil] using this
theorem namesB_nil : namesB [] = [] := rfl
theorem mem_atomB {a n : List UInt8} (h : n ∈ atomB a) : n = a ∧ a ≠ [] := by
  unfold atomB at h; split at h <;> simp_all
theorem namesA_good (l : List UInt8) : ∀ (a : List UInt8), 47 ∉ a → ∀ n ∈ namesA a l, 47 ∉ n ∧ n ≠ [] := by
  induction l with
  | nil => intro a ha n hn; obtain ⟨rfl, h⟩ := mem_atomB hn; exact ⟨ha, h⟩
  | cons c l ih =>
    intro a ha n hn
    by_cases hc : c = 47
    · subst hc
      rw [namesA_slash] at hn
      rcases List.mem_append.1 hn with h | h
      · obtain ⟨rfl, h⟩ := mem_atomB h; exact ⟨ha, h⟩
      · exact ih [] (by simp) n h
    · rw [namesA_byte _ _ hc] at hn
      exact ih _ (by simp [ha]; exact fun e => hc e.symm) n hn
def goodB (ns : List (List UInt8)) : Prop := ∀ n ∈ ns, 47 ∉ n ∧ n ≠ []
theorem namesB_good (l : List UInt8) : goodB (namesB l) := namesA_good l [] (by simp)
theorem atomB_len (a : List UInt8) : (atomB a).length ≤ a.length := by
  unfold atomB; split
  · simp
  · rename_i h; cases a with | nil => exact absurd rfl h | cons _ _ => simp
theorem namesA_count (l : List UInt8) : ∀ a, (namesA a l).length ≤ a.length + l.length := by
  induction l with
  | nil => intro a; exact atomB_len a
  | cons c l ih =>
    intro a
    by_cases hc : c = 47
    · subst hc
      rw [namesA_slash]
      have := ih []; have := atomB_len a
      simp at *; omega
    · rw [namesA_byte _ _ hc]
      have := ih (a ++ [c]); simp at *; omega
theorem namesB_count (l : List UInt8) : (namesB l).length ≤ l.length := by simpa [namesB] using namesA_count l []
theorem namesA_size (l : List UInt8) : ∀ a, ∀ n ∈ namesA a l, n.length ≤ a.length + l.length := by
  induction l with
  | nil => intro a n hn; obtain ⟨rfl, _⟩ := mem_atomB hn; simp
  | cons c l ih =>
    intro a n hn
    by_cases hc : c = 47
    · subst hc
      rw [namesA_slash] at hn
      rcases List.mem_append.1 hn with h | h
      · obtain ⟨rfl, _⟩ := mem_atomB h; simp
      · have := ih [] n h; simp at *; omega
    · rw [namesA_byte _ _ hc] at hn
      have := ih _ n hn; simp at *; omega
theorem namesB_size (l : List UInt8) : ∀ n ∈ namesB l, n.length ≤ l.length := by
  intro n hn; simpa using namesA_size l [] n hn
theorem namesA_some (l : List UInt8) : ∀ a, a ≠ [] → namesA a l ≠ [] := by
  induction l with
  | nil => intro a ha; rw [namesA_nil, atomB_cons ha]; simp
  | cons c l ih =>
    intro a ha
    by_cases hc : c = 47
    · subst hc; rw [namesA_slash, atomB_cons ha]; simp
    · rw [namesA_byte _ _ hc]; exact ih _ (by simp)

def absB (l : List UInt8) : Bool := l.head? == some 47
def endB (l : List UInt8) : Bool := l.getLast? == some 47
def slashB (l : List UInt8) : Bool := !(namesB l).isEmpty && endB l
theorem namesB_none_abs {l : List UInt8} (h : namesB l = []) : absB l = !l.isEmpty := by
  cases l with
  | nil => rfl
  | cons c r =>
    by_cases hc : c = 47
    · subst hc; rfl
    · unfold namesB at h; rw [namesA_byte _ _ hc] at h; exact absurd h (namesA_some _ _ (by simp))
def baseB (l : List UInt8) : List UInt8 := ((namesB l).getLast?).getD (if absB l then [47] else [])
theorem baseB_some {l : List UInt8} {ns : List (List UInt8)} {n : List UInt8} (h : namesB l = ns ++ [n]) : baseB l = n := by simp [baseB, h]
theorem baseB_none {l : List UInt8} (h : namesB l = []) : baseB l = if absB l then [47] else [] := by simp [baseB, h]

/-- The text of names, a slash ahead of each. -/
def tailB : List (List UInt8) → List UInt8
  | [] => []
  | n :: r => 47 :: (n ++ tailB r)
def interB : List (List UInt8) → List UInt8
  | [] => []
  | n :: r => n ++ tailB r
def putB (a : Bool) (ns : List (List UInt8)) (s : Bool) : List UInt8 := (if a then [47] else []) ++ interB ns ++ (if s && !ns.isEmpty then [47] else [])
def joinB (ns : List (List UInt8)) : List UInt8 := 47 :: interB ns
theorem joinB_put (ns : List (List UInt8)) : putB true ns false = joinB ns := by simp [putB, joinB]
theorem tailB_append (a b : List (List UInt8)) : tailB (a ++ b) = tailB a ++ tailB b := by
  induction a with
  | nil => rfl
  | cons n a ih => simp [tailB, ih]
theorem joinB_tail {ns : List (List UInt8)} (h : ns ≠ []) : joinB ns = tailB ns := by
  cases ns with
  | nil => exact absurd rfl h
  | cons n r => rfl
theorem interB_snoc (ns : List (List UInt8)) (n : List UInt8) : interB (ns ++ [n]) = if ns.isEmpty then n else interB ns ++ 47 :: n := by
  cases ns with
  | nil => simp [interB, tailB]
  | cons m r => simp [interB, tailB_append, tailB]
theorem tailB_snoc (ns : List (List UInt8)) (n : List UInt8) : tailB (ns ++ [n]) = tailB ns ++ 47 :: n := by simp [tailB_append, tailB]
theorem tailB_len (ns : List (List UInt8)) (b : Nat) (h : ∀ n ∈ ns, n.length ≤ b) : (tailB ns).length ≤ ns.length * (b + 1) := by
  induction ns with
  | nil => simp [tailB]
  | cons n r ih =>
    have h1 := ih (fun n hn => h n (by simp [hn])); have h2 := h n (by simp)
    simp only [tailB, List.length_cons, List.length_append, Nat.succ_mul, Nat.add_mul, Nat.one_mul] at *
    omega
theorem interB_len_tail (ns : List (List UInt8)) : (interB ns).length ≤ (tailB ns).length := by
  cases ns <;> simp [interB, tailB]
theorem interB_take (ns : List (List UInt8)) (k : Nat) : (interB (ns.take k)).length ≤ (interB ns).length := by
  cases ns with
  | nil => simp
  | cons n r =>
    cases k with
    | zero => simp [interB]
    | succ k =>
      have : tailB r = tailB (r.take k) ++ tailB (r.drop k) := by rw [← tailB_append, List.take_append_drop]
      simp [interB, this]
theorem tailB_take (ns : List (List UInt8)) (k : Nat) : (tailB (ns.take k)).length ≤ (tailB ns).length := by
  have : tailB ns = tailB (ns.take k) ++ tailB (ns.drop k) := by rw [← tailB_append, List.take_append_drop]
  rw [this]; simp

theorem namesA_total (l : List UInt8) : ∀ a, (tailB (namesA a l)).length ≤ a.length + l.length + 1 := by
  have one : ∀ a : List UInt8, (tailB (atomB a)).length ≤ a.length + 1 := by
    intro a; unfold atomB; split
    · simp [tailB]
    · simp [tailB]
  induction l with
  | nil => intro a; simpa [namesA_nil] using one a
  | cons c l ih =>
    intro a
    by_cases hc : c = 47
    · subst hc
      rw [namesA_slash, tailB_append, List.length_append]
      have := ih []; have := one a
      simp at *; omega
    · rw [namesA_byte _ _ hc]
      have := ih (a ++ [c]); simp at *; omega
theorem namesB_total (l : List UInt8) : (interB (namesB l)).length ≤ l.length + 1 := by
  have h1 := interB_len_tail (namesB l); have h2 := namesA_total l []
  simp [namesB] at *; omega
theorem namesA_tail_more (ns : List (List UInt8)) (r : List UInt8) : ∀ a, goodB ns → namesA a (tailB ns ++ 47 :: r) = atomB a ++ ns ++ namesB r := by
  induction ns with
  | nil => intro a _; simp [tailB, namesA_slash, namesB]
  | cons n ns ih =>
    intro a h
    obtain ⟨h1, h2⟩ := h n (by simp)
    have := ih n (fun m hm => h m (by simp [hm]))
    rw [show tailB (n :: ns) ++ 47 :: r = 47 :: (n ++ (tailB ns ++ 47 :: r)) from by simp [tailB], namesA_slash, namesA_run _ _ _ h1, List.nil_append, this, atomB_cons h2]
    simp
theorem namesA_tail (ns : List (List UInt8)) : ∀ a, goodB ns → namesA a (tailB ns) = atomB a ++ ns := by
  induction ns with
  | nil => intro a _; simp [tailB, namesA_nil]
  | cons n ns ih =>
    intro a h
    obtain ⟨h1, h2⟩ := h n (by simp)
    have := ih n (fun m hm => h m (by simp [hm]))
    rw [tailB, namesA_slash, namesA_run _ _ _ h1, List.nil_append, this, atomB_cons h2]
    simp
theorem namesB_inter (ns : List (List UInt8)) (h : goodB ns) : namesB (interB ns) = ns := by
  cases ns with
  | nil => rfl
  | cons n r =>
    obtain ⟨h1, h2⟩ := h n (by simp)
    unfold namesB interB
    rw [namesA_run _ _ _ h1, List.nil_append, namesA_tail _ _ (fun m hm => h m (by simp [hm])), atomB_cons h2]; rfl
theorem namesB_inter_more (ns : List (List UInt8)) (r : List UInt8) (h : goodB ns) : namesB (interB ns ++ 47 :: r) = ns ++ namesB r := by
  cases ns with
  | nil => simp [interB, namesB, namesA_slash, atomB]
  | cons n ns =>
    obtain ⟨h1, h2⟩ := h n (by simp)
    unfold namesB interB
    rw [List.append_assoc, namesA_run _ _ _ h1, List.nil_append, namesA_tail_more _ _ _ (fun m hm => h m (by simp [hm])), atomB_cons h2]; rfl
theorem namesB_slash (l : List UInt8) : namesB (47 :: l) = namesB l := by simp [namesB, namesA_slash, atomB]
theorem namesB_join (ns : List (List UInt8)) (h : goodB ns) : namesB (joinB ns) = ns := by rw [joinB, namesB_slash, namesB_inter _ h]
theorem namesB_put (a s : Bool) (ns : List (List UInt8)) (h : goodB ns) : namesB (putB a ns s) = ns := by
  have key : ∀ post : List UInt8, (post = [] ∨ post = [47]) → namesB (interB ns ++ post) = ns := by
    rintro post (rfl | rfl)
    · rw [List.append_nil, namesB_inter _ h]
    · rw [namesB_inter_more _ _ h, namesB_nil, List.append_nil]
  unfold putB
  have hp : (if (s && !ns.isEmpty) = true then [47] else ([] : List UInt8)) = [] ∨ (if (s && !ns.isEmpty) = true then [47] else ([] : List UInt8)) = [47] := by split <;> simp
  cases a
  · simpa using key _ hp
  · rw [if_pos rfl, List.append_assoc, List.singleton_append, namesB_slash]; exact key _ hp
theorem absB_put (a s : Bool) (ns : List (List UInt8)) (h : goodB ns) : absB (putB a ns s) = a := by
  cases a
  · cases ns with
    | nil => simp [putB, interB, absB]
    | cons n r =>
      obtain ⟨h1, h2⟩ := h n (by simp)
      cases n with
      | nil => exact absurd rfl h2
      | cons c n =>
        have : c ≠ 47 := fun e => h1 (by simp [e])
        simp [putB, interB, absB, this]
  · simp [putB, absB]
theorem last_app (a b : List UInt8) (h : b ≠ []) : (a ++ b).getLast? = b.getLast? := by
  rw [List.getLast?_append]; cases hb : b.getLast? <;> simp_all
theorem tailB_last (ns : List (List UInt8)) : goodB ns → ∀ a : List UInt8, a ≠ [] → 47 ∉ a → ∃ c, (a ++ tailB ns).getLast? = some c ∧ c ≠ 47 := by
  induction ns with
  | nil =>
    intro _ a h1 h2
    refine ⟨a.getLast h1, by rw [tailB, List.append_nil, List.getLast?_eq_some_getLast h1], fun e => h2 ?_⟩
    rw [← e]; exact List.getLast_mem h1
  | cons n ns ih =>
    intro h a _ _
    obtain ⟨h1, h2⟩ := h n (by simp)
    obtain ⟨c, hc, hn⟩ := ih (fun m hm => h m (by simp [hm])) n h2 h1
    refine ⟨c, ?_, hn⟩
    have hne : n ++ tailB ns ≠ [] := by simp [h2]
    rw [tailB, show a ++ 47 :: (n ++ tailB ns) = (a ++ [47]) ++ (n ++ tailB ns) from by simp, last_app _ _ hne]
    exact hc
theorem endB_put (a s : Bool) (ns : List (List UInt8)) (h : goodB ns) (hn : ns ≠ []) : endB (putB a ns s) = s := by
  cases ns with
  | nil => exact absurd rfl hn
  | cons n r =>
    obtain ⟨h1, h2⟩ := h n (by simp)
    cases s
    · obtain ⟨c, hc, hne⟩ := tailB_last r (fun m hm => h m (by simp [hm])) n h2 h1
      have hne' : n ++ tailB r ≠ [] := by simp [h2]
      simp only [endB, putB, interB, Bool.false_and, Bool.false_eq_true, if_false, List.append_nil]
      rw [last_app _ _ hne', hc]
      simp [hne]
    · simp [endB, putB]
theorem slashB_put (a s : Bool) (ns : List (List UInt8)) (h : goodB ns) : slashB (putB a ns s) = (s && !ns.isEmpty) := by
  unfold slashB
  rw [namesB_put _ _ _ h]
  cases ns with
  | nil => simp
  | cons n r => rw [endB_put _ _ _ h (by simp)]; simp
theorem slashB_eq (l : List UInt8) : (slashB l && !(namesB l).isEmpty) = slashB l := by
  unfold slashB; cases (namesB l).isEmpty <;> simp

theorem mayB_good {n : List UInt8} (h : mayB n = true) : 47 ∉ n ∧ n ≠ [] := by
  simp [mayB] at h; exact ⟨h.1.2, h.1.1.1.1.1⟩
theorem mayB_all {ns : List (List UInt8)} (h : ns.all mayB = true) : goodB ns := fun n hn => mayB_good (List.all_eq_true.1 h n hn)
def longB (l : List UInt8) : Bool := decide (4095 < l.length) || (namesB l).any fun n => decide (255 < n.length)
def plainB (l : List UInt8) : Option (List (List UInt8)) := if (namesB l).all mayB && joinB (namesB l) == l then some (namesB l) else none
theorem plainB_bad {l : List UInt8} {k : Nat} (h : k < (namesB l).length) (hm : mayB (namesB l)[k] = false) : plainB l = none := by
  unfold plainB
  rw [if_neg]
  intro e
  simp only [Bool.and_eq_true, List.all_eq_true] at e
  rw [e.1 _ (List.getElem_mem h)] at hm
  exact absurd hm (by simp)
theorem plainB_ok {l : List UInt8} (h : ∀ n ∈ namesB l, mayB n = true) : plainB l = if joinB (namesB l) == l then some (namesB l) else none := by
  unfold plainB
  rw [List.all_eq_true.2 h, Bool.true_and]
theorem plainB_yes {l : List UInt8} {ns : List (List UInt8)} (h : plainB l = some ns) : joinB ns = l ∧ goodB ns ∧ namesB l = ns := by
  unfold plainB at h
  split at h
  · rename_i hc
    simp only [Bool.and_eq_true, beq_iff_eq] at hc
    cases h
    exact ⟨hc.2, namesB_good _, rfl⟩
  · cases h
theorem plainB_join {ns : List (List UInt8)} (h : ns.all mayB = true) : plainB (joinB ns) = some ns := by
  unfold plainB
  rw [namesB_join _ (mayB_all h), h]; simp

/-- As the program asks it. -/
def liesB (p q : List UInt8) : Bool := (p == q) || (q == [47]) || (q ++ [47]).isPrefixOf p
theorem joinB_inj {a b : List (List UInt8)} (ha : goodB a) (hb : goodB b) (h : joinB a = joinB b) : a = b := by
  rw [← namesB_join a ha, h, namesB_join b hb]
theorem under_more (a c : List (List UInt8)) : liesB (joinB (a ++ c)) (joinB a) = true := by
  unfold liesB
  by_cases hc : c = []
  · subst hc; simp
  · by_cases ha : a = []
    · subst ha; simp [joinB, interB]
    · have : (joinB a ++ [47]).isPrefixOf (joinB (a ++ c)) = true := by
        rw [List.isPrefixOf_iff_prefix, joinB_tail ha, joinB_tail (by simp [ha]), tailB_append]
        cases c with
        | nil => exact absurd rfl hc
        | cons n r => exact ⟨n ++ tailB r, by simp [tailB]⟩
      rw [this]; simp
theorem under_prefix {a b : List (List UInt8)} (ha : goodB a) (hb : goodB b) : liesB (joinB a) (joinB b) = b.isPrefixOf a := by
  rw [Bool.eq_iff_iff]
  constructor
  · intro h
    simp only [liesB, Bool.or_eq_true, beq_iff_eq] at h
    rw [List.isPrefixOf_iff_prefix]
    rcases h with (h | h) | h
    · rw [joinB_inj ha hb h]; exact List.prefix_refl _
    · have := namesB_join b hb
      rw [h] at this
      rw [← this]; simp [namesB, namesA, atomB]
    · rw [List.isPrefixOf_iff_prefix] at h
      obtain ⟨r, hr⟩ := h
      have h1 := namesB_join a ha
      rw [← hr, List.append_assoc, List.singleton_append, joinB, List.cons_append, namesB_slash, namesB_inter_more _ _ hb] at h1
      exact ⟨_, h1⟩
  · intro h
    rw [List.isPrefixOf_iff_prefix] at h
    obtain ⟨c, rfl⟩ := h
    exact under_more b c
theorem under_back (a c : List (List UInt8)) (ha : goodB a) (hc : goodB c) : liesB (joinB a) (joinB (a ++ c)) = decide (a.length = (a ++ c).length) := by
  rw [under_prefix ha (fun n hn => (List.mem_append.1 hn).elim (ha n) (hc n)), Bool.eq_iff_iff, List.isPrefixOf_iff_prefix, decide_eq_true_eq]
  constructor
  · intro h; have := h.length_le; rw [List.length_append] at this ⊢; omega
  · intro h
    have : c = [] := List.eq_nil_of_length_eq_zero (by rw [List.length_append] at h; omega)
    subst this; simp
theorem under_root (p : List UInt8) : liesB p [47] = true := by simp [liesB]
end Go.Proofs.YtoejjdebfjepaaaGreat

/- The walk's paths: plain, no two alike, each behind that of its directory. No program's function. -/
set_option linter.unusedVariables false
set_option linter.unusedSimpArgs false
namespace Go.Proofs.YtoejjdebfjepaaaGreat

theorem under_join {ns : List (List UInt8)} (h : goodB ns) (n : List UInt8) : underB (joinB ns) n = joinB (ns ++ [n]) := by
  cases hn : ns with
  | nil =>
    unfold underB
    rw [if_pos (show joinB [] = [47] from rfl)]; simp [joinB, interB, tailB]
  | cons a r =>
    rw [← hn]
    have hne : ns ≠ [] := by rw [hn]; simp
    have h1 : joinB ns ≠ [47] := by
      have ha := (h a (by rw [hn]; simp)).2
      intro e
      rw [joinB_tail hne, hn] at e
      simp [tailB] at e
      exact ha e.1
    unfold underB
    rw [if_neg h1, joinB_tail hne, joinB_tail (by simp), tailB_snoc]
    simp
/-- The walk, by names. -/
def treeN (l : List Nd) : Nat → Int → List (List UInt8) → List (List (List UInt8) × Int)
  | 0, _, _ => []
  | d + 1, i, ns => if hasN l i = true then (ns, i) :: (getN l i).ents.flatMap (fun e => treeN l d e.2 (ns ++ [e.1])) else []
theorem may_ents {l : List Nd} (t : Tree l) {i : Int} : ∀ e ∈ (getN l i).ents, mayB e.1 = true := by
  intro e he
  cases hh : hasN l i
  · rw [getN_none hh] at he; cases he
  · have hm := (get_mem hh).1
    have hk : (getN l i).kind = 2 := Decidable.byContradiction fun hk => by rw [t.files _ hm hk] at he; cases he
    have := ((rightB_iff _).1 (t.rights _ hm hk)).1 e he
    unfold goodE at this
    rw [Bool.and_eq_true] at this
    exact this.1
theorem good_snoc {ns : List (List UInt8)} {n : List UInt8} (h : goodB ns) (hn : mayB n = true) : goodB (ns ++ [n]) := by
  intro m hm
  rcases List.mem_append.1 hm with hm | hm
  · exact h m hm
  · rw [List.mem_singleton.1 hm]; exact mayB_good hn
theorem below_tree {l : List Nd} (t : Tree l) (d : Nat) : ∀ i ns, goodB ns → belowN l d i (joinB ns) = (treeN l d i ns).map (fun q => (joinB q.1, q.2)) := by
  induction d with
  | zero => intro i ns _; rfl
  | succ d ih =>
    intro i ns h
    show (if hasN l i = true then _ else _) = (if hasN l i = true then _ else _ : List _).map _
    split
    · rw [List.map_cons, List.map_flatMap]
      congr 1
      have hm := may_ents t (i := i)
      revert hm
      induction (getN l i).ents with
      | nil => intro _; rfl
      | cons e r ih2 =>
        intro hm
        rw [List.flatMap_cons, List.flatMap_cons, ih2 fun x hx => hm x (by simp [hx]), under_join h, ih _ _ (good_snoc h (hm e (by simp)))]
    · rfl
theorem tree_may {l : List Nd} (t : Tree l) (d : Nat) : ∀ i ns, ns.all mayB = true → ∀ q ∈ treeN l d i ns, q.1.all mayB = true := by
  induction d with
  | zero => intro i ns _ q hq; cases hq
  | succ d ih =>
    intro i ns h q hq
    unfold treeN at hq
    split at hq
    · rcases List.mem_cons.1 hq with rfl | hq
      · exact h
      · obtain ⟨e, he, hq⟩ := List.mem_flatMap.1 hq
        exact ih _ _ (by rw [List.all_append, h]; simp [may_ents t e he]) q hq
    · cases hq
theorem tree_prefix (l : List Nd) (d : Nat) : ∀ i ns, ∀ q ∈ treeN l d i ns, ns <+: q.1 := by
  induction d with
  | zero => intro i ns q hq; cases hq
  | succ d ih =>
    intro i ns q hq
    unfold treeN at hq
    split at hq
    · rcases List.mem_cons.1 hq with rfl | hq
      · exact List.prefix_rfl
      · obtain ⟨e, he, hq⟩ := List.mem_flatMap.1 hq
        exact (List.prefix_append _ _).trans (ih _ _ q hq)
    · cases hq
theorem right_pair {es : List Ent} (h : rightP es) : es.Pairwise (fun a b => a.1 ≠ b.1) := h.2.imp fun h => lt_ne h
theorem ents_pair {l : List Nd} (t : Tree l) (i : Int) : (getN l i).ents.Pairwise (fun a b => a.1 ≠ b.1) := by
  cases hh : hasN l i
  · rw [getN_none hh]; exact List.Pairwise.nil
  · have hm := (get_mem hh).1
    by_cases hk : (getN l i).kind = 2
    · exact right_pair ((rightB_iff _).1 (t.rights _ hm hk))
    · rw [t.files _ hm hk]; exact List.Pairwise.nil
/-- No two paths are alike. -/
theorem tree_nodup {l : List Nd} (t : Tree l) (d : Nat) : ∀ i ns, ((treeN l d i ns).map (·.1)).Nodup := by
  induction d with
  | zero => intro i ns; exact List.Pairwise.nil
  | succ d ih =>
    intro i ns
    unfold treeN
    split
    · rw [List.map_cons, List.map_flatMap, List.nodup_cons]
      constructor
      · intro hm
        obtain ⟨e, he, hq⟩ := List.mem_flatMap.1 hm
        obtain ⟨q, hq, hq2⟩ := List.mem_map.1 hq
        have h1 := (tree_prefix l d _ _ q hq).length_le
        have h2 : q.1 = ns := hq2
        rw [h2, List.length_append, List.length_singleton] at h1
        omega
      · have hp := ents_pair t i
        revert hp
        induction (getN l i).ents with
        | nil => intro _; exact List.Pairwise.nil
        | cons e r ih2 =>
          intro hp
          obtain ⟨h1, h2⟩ := List.pairwise_cons.1 hp
          rw [List.flatMap_cons]
          refine List.nodup_append.2 ⟨ih _ _, ih2 h2, ?_⟩
          intro a ha b hb hab
          subst hab
          obtain ⟨q, hq, rfl⟩ := List.mem_map.1 ha
          obtain ⟨e2, he2, hb⟩ := List.mem_flatMap.1 hb
          obtain ⟨q2, hq2, hqq⟩ := List.mem_map.1 hb
          obtain ⟨s1, hs1⟩ := tree_prefix l d _ _ q hq
          obtain ⟨s2, hs2⟩ := tree_prefix l d _ _ q2 hq2
          have : ns ++ [e.1] ++ s1 = ns ++ [e2.1] ++ s2 := by rw [hs1, hs2, hqq]
          simp at this
          exact h1 e2 he2 this.1
    · exact List.Pairwise.nil
/-- Behind its directory, whose entry it is. -/
def Parent (l : List Nd) (A : List (List (List UInt8) × Int)) (q : List (List UInt8) × Int) : Prop := ∃ pn nm dir, q.1 = pn ++ [nm] ∧ (pn, dir) ∈ A ∧ (nm, q.2) ∈ (getN l dir).ents
theorem Parent.mono {l : List Nd} {A B : List (List (List UInt8) × Int)} {q : List (List UInt8) × Int} (h : Parent l A q) (hs : ∀ x ∈ A, x ∈ B) : Parent l B q := by
  obtain ⟨pn, nm, dir, h1, h2, h3⟩ := h
  exact ⟨pn, nm, dir, h1, hs _ h2, h3⟩
theorem tree_head {l : List Nd} {d : Nat} {i : Int} {ns : List (List UInt8)} {q : List (List UInt8) × Int} {B : List (List (List UInt8) × Int)} (h : treeN l d i ns = q :: B) : q = (ns, i) := by
  cases d with
  | zero => cases h
  | succ d =>
    unfold treeN at h
    split at h
    · exact (List.cons.inj h).1.symm
    · cases h
theorem tree_parent (l : List Nd) (d : Nat) : ∀ i ns A q B, treeN l d i ns = A ++ q :: B → A ≠ [] → Parent l A q := by
  induction d with
  | zero => intro i ns A q B h; cases A <;> cases h
  | succ d ih =>
    intro i ns A q B h hA
    unfold treeN at h
    split at h
    · cases A with
      | nil => exact absurd rfl hA
      | cons x A =>
        obtain ⟨h1, h2⟩ := List.cons.inj h
        subst h1
        have key : ∀ (es : List Ent), (∀ e ∈ es, e ∈ (getN l i).ents) → ∀ A B, es.flatMap (fun e => treeN l d e.2 (ns ++ [e.1])) = A ++ q :: B → Parent l ((ns, i) :: A) q := by
          intro es
          induction es with
          | nil => intro _ A B h; cases A <;> cases h
          | cons e r ih2 =>
            intro hm A B h
            rw [List.flatMap_cons] at h
            rcases List.append_eq_append_iff.1 h with ⟨C, hC1, hC2⟩ | ⟨C, hC1, hC2⟩
            · subst hC1
              refine (ih2 (fun x hx => hm x (by simp [hx])) C B hC2).mono ?_
              intro x hx
              rcases List.mem_cons.1 hx with rfl | hx
              · simp
              · simp [hx]
            · cases C with
              | nil =>
                rw [List.append_nil] at hC1
                rw [List.nil_append] at hC2
                refine (ih2 (fun x hx => hm x (by simp [hx])) [] B (by rw [List.nil_append]; exact hC2.symm)).mono ?_
                intro x hx
                simp at hx
                simp [hx]
              | cons y C =>
                obtain ⟨h3, h4⟩ := List.cons.inj hC2
                subst h3
                cases A with
                | nil =>
                  have := tree_head (l := l) (d := d) (i := e.2) (ns := ns ++ [e.1]) hC1
                  subst this
                  exact ⟨ns, e.1, i, rfl, by simp, hm e (by simp)⟩
                | cons z A =>
                  refine (ih _ _ (z :: A) q C hC1 (by simp)).mono ?_
                  intro x hx
                  exact List.mem_cons_of_mem _ hx
        exact key _ (fun _ h => h) A B h2
    · cases A <;> cases h
end Go.Proofs.YtoejjdebfjepaaaGreat

/- The walk of a sound file system: how many, in which order; its paths' lengths. No program's function. -/
set_option linter.unusedVariables false
set_option linter.unusedSimpArgs false
namespace Go.Proofs.YtoejjdebfjepaaaGreat

theorem inos_nodup {l : List Nd} (t : Tree l) : (l.map (·.ino)).Nodup := by
  rw [List.nodup_iff_pairwise_ne, List.pairwise_map]
  exact t.rise.imp fun h => by omega
theorem kids_len0 {l : List Nd} (t : Tree l) {i : Int} (h : isDir l i = false) : (kidsN l i).length = 0 := by
  have : kidsN l i = [] := Decidable.byContradiction fun hk => by rw [kids_dir t hk] at h; cases h
  rw [this]; rfl
theorem list_exact {l : List Nd} (t : Tree l) : (listN l).length = 1 + entsN l := by
  refine Nat.le_antisymm (list_len t _ _) ?_
  have h0 := (below_perm t.there (l.length + 1) 1 [47] t.root).length_eq
  rw [List.length_map] at h0
  unfold listN
  rw [h0, ← vis_end t 1, show l.length + 1 + 1 = (l.length + 1) + 1 from rfl, vis_out, List.length_append, len_flat]
  have h1 : entsN l ≤ ((visN l (l.length + 1) [1]).map (fun i => (kidsN l i).length)).sum := by
    unfold entsN
    rw [← kids_sum t (fun es => es.length), sum_filter _ (visN l (l.length + 1) [1]) (isDir l) (fun i _ hi => kids_len0 t hi)]
    have e : ((l.map (·.ino)).map (fun i => (getN l i).ents.length)).sum = (((l.map (·.ino)).filter (isDir l)).map (fun i => (kidsN l i).length)).sum := by
      rw [← sum_filter (fun i => (kidsN l i).length) (l.map (·.ino)) (isDir l) (fun i _ hi => kids_len0 t hi)]
      simp [kidsN]
    rw [e]
    refine sum_sub _ _ _ ((inos_nodup t).filter _) ?_
    intro i hi
    have hd := (List.mem_filter.1 hi).2
    have hh : hasN l i = true := by unfold isDir at hd; rw [Bool.and_eq_true] at hd; exact hd.1
    obtain ⟨m, hm, hl⟩ := on_level t hh
    exact List.mem_filter.2 ⟨lv_vis (by omega) i hl, hd⟩
  simp only [List.length_singleton]; omega
theorem list_tree {l : List Nd} (t : Tree l) : listN l = (treeN l (l.length + 1) 1 []).map (fun q => (joinB q.1, q.2)) := below_tree t _ 1 [] (fun n hn => nomatch hn)
theorem list_head {l : List Nd} (t : Tree l) : ∃ r, listN l = ([47], 1) :: r := by
  unfold listN
  refine ⟨_, show (if hasN l 1 = true then _ else _) = _ from by rw [if_pos t.root]⟩
theorem list_may {l : List Nd} (t : Tree l) {i : Nat} (h : i < (listN l).length) : ∃ ns, ns.all mayB = true ∧ (listN l)[i].1 = joinB ns := by
  have hm := List.getElem_mem h
  have e := list_tree t
  generalize (listN l)[i] = q at *
  rw [e] at hm
  obtain ⟨z, hz, rfl⟩ := List.mem_map.1 hm
  exact ⟨z.1, tree_may t _ _ _ rfl z hz, rfl⟩
theorem split_at {α : Type} {L : List α} {i : Nat} (h : i < L.length) : L = L.take i ++ L[i] :: L.drop (i + 1) := by rw [← List.drop_eq_getElem_cons h, List.take_append_drop]
theorem order_at {l : List Nd} (t : Tree l) {i : Nat} (h0 : 0 < i) (h : i < (listN l).length) : ∃ pn nm dir k, ∃ hk : k < i, (pn ++ [nm]).all mayB = true ∧ (listN l)[i].1 = joinB (pn ++ [nm]) ∧ (listN l)[k]'(by omega) = (joinB pn, dir) ∧ (nm, (listN l)[i].2) ∈ (getN l dir).ents := by
  have e := list_tree t
  have hT : i < (treeN l (l.length + 1) 1 []).length := by rw [e, List.length_map] at h; exact h
  have hL : ∀ k (hk : k < (listN l).length) (hk2 : k < (treeN l (l.length + 1) 1 []).length), (listN l)[k] = (joinB (treeN l (l.length + 1) 1 [])[k].1, (treeN l (l.length + 1) 1 [])[k].2) := by
    intro k hk hk2
    simp only [e, List.getElem_map]
  have hmay := tree_may t (l.length + 1) 1 [] rfl _ (List.getElem_mem hT)
  obtain ⟨pn, nm, dir, h1, h2, h3⟩ := tree_parent l (l.length + 1) 1 [] _ _ _ (split_at hT) (by
    intro hn
    have := congrArg List.length hn
    rw [List.length_take, List.length_nil] at this
    omega)
  obtain ⟨k, hk, hk2⟩ := List.getElem_of_mem h2
  have hki : k < i := by simp at hk; omega
  rw [List.getElem_take] at hk2
  refine ⟨pn, nm, dir, k, hki, by rw [← h1]; exact hmay, ?_, ?_, ?_⟩
  · rw [hL i h hT, h1]
  · rw [hL k (by omega) (by omega), hk2]
  · rw [hL i h hT]; exact h3
theorem order_ne {l : List Nd} (t : Tree l) {i k : Nat} (hk : k < i) (h : i < (listN l).length) : ((listN l)[k]'(by omega)).1 ≠ (listN l)[i].1 := by
  have e := list_tree t
  have hT : i < (treeN l (l.length + 1) 1 []).length := by rw [e, List.length_map] at h; exact h
  have hn := tree_nodup t (l.length + 1) 1 []
  have hg : ∀ k (hk : k < (treeN l (l.length + 1) 1 []).length), goodB (treeN l (l.length + 1) 1 [])[k].1 := fun k hk => mayB_all (tree_may t _ _ _ rfl _ (List.getElem_mem hk))
  simp only [e, List.getElem_map]
  intro he
  have := joinB_inj (hg k (by omega)) (hg i hT) he
  have h2 := (List.pairwise_iff_getElem.1 (List.nodup_iff_pairwise_ne.1 hn)) k i (by simp; omega) (by simp; omega) hk
  simp only [List.getElem_map] at h2
  exact h2 this
theorem below_paths {l : List Nd} (hs : ∀ x ∈ l, shortP 300 x.ents) (d : Nat) : ∀ i p, ∀ q ∈ belowN l d i p, q.1.length ≤ p.length + d * 301 := by
  induction d with
  | zero => intro i p q hq; cases hq
  | succ d ih =>
    intro i p q hq
    unfold belowN at hq
    split at hq
    · rename_i hh
      rcases List.mem_cons.1 hq with rfl | hq
      · simp
      · obtain ⟨e, he, hq⟩ := List.mem_flatMap.1 hq
        have h1 := ih _ _ q hq
        have h2 := under_len p e.1
        have h3 := hs _ (get_mem hh).1 e he
        omega
    · cases hq
theorem ents_next {l : List Nd} {k : Nat} (h : k < l.length) : entsN (l.take (k + 1)) = entsN (l.take k) + l[k].ents.length := by
  unfold entsN
  rw [List.take_succ_eq_append_getElem h, List.map_append, List.sum_append]
  simp
theorem ents_take (l : List Nd) (k : Nat) : entsN (l.take k) ≤ entsN l := by
  have e : entsN l = entsN (l.take k) + entsN (l.drop k) := by
    unfold entsN
    rw [← List.sum_append, ← List.map_append, List.take_append_drop]
  omega
theorem few_ents {l : List Nd} (h : fewN l = true) : entsN l ≤ 1600 ∧ l.length ≤ 40 ∧ ∀ x ∈ l, shortP 300 x.ents := by
  have hsm := fewN_small h
  unfold fewN at h
  rw [Bool.and_eq_true, List.all_eq_true] at h
  have hx : ∀ x ∈ l, x.ents.length ≤ 40 ∧ shortP 300 x.ents := by
    intro x hx
    have := h.2 x hx
    unfold fewX at this
    simp only [Bool.and_eq_true, decide_eq_true_eq, List.all_eq_true] at this
    exact ⟨this.1.2, this.2⟩
  refine ⟨?_, hsm.1, fun x hm => (hx x hm).2⟩
  have key : ∀ r : List Nd, (∀ x ∈ r, x.ents.length ≤ 40) → entsN r ≤ r.length * 40 := by
    intro r
    induction r with
    | nil => intro _; simp [entsN]
    | cons x r ih =>
      intro hr
      have h1 := ih fun y hy => hr y (by simp [hy])
      have h2 := hr x (by simp)
      simp only [entsN, List.map_cons, List.sum_cons, List.length_cons] at h1 ⊢
      omega
  have h1 := key l fun x hm => (hx x hm).1
  have h2 := hsm.1
  omega
end Go.Proofs.YtoejjdebfjepaaaGreat

/- Where plain paths lead, as lists. No program's function. -/
set_option linter.unusedVariables false
set_option linter.unusedSimpArgs false
namespace Go.Proofs.YtoejjdebfjepaaaGreat

/-- A place: the directory, the name, the inode. -/
structure Sp where
  dir : Int
  name : List UInt8
  ino : Int
deriving DecidableEq
abbrev zeroS : Sp := ⟨0, [], 0⟩
abbrev rootS : Sp := ⟨0, [], 1⟩
def stepS (l : List Nd) (i : Int) (n : List UInt8) : Sp := ⟨(getN l i).ino, n, numB (getN l i).ents n⟩
def atN (l : List Nd) : Sp → List (List UInt8) → Sp × Int
  | s, [] => (s, 0)
  | s, n :: r => if s.ino = 0 then (zeroS, 1) else if (getN l s.ino).kind = 2 then atN l (stepS l s.ino n) r else (zeroS, 3)
def atP (l : List Nd) (p : List UInt8) : Sp × Int := match plainB p with
  | none => (zeroS, 9)
  | some ns => atN l rootS ns
def getP (l : List Nd) (p : List UInt8) : Nd × Int := if (atP l p).2 ≠ 0 then (zeroN, (atP l p).2) else if (atP l p).1.ino = 0 then (zeroN, 1) else (getN l (atP l p).1.ino, 0)
theorem at_gone {l : List Nd} {s : Sp} {n : List UInt8} {r : List (List UInt8)} (h : s.ino = 0) : atN l s (n :: r) = (zeroS, 1) := by rw [atN, if_pos h]
theorem at_file {l : List Nd} {s : Sp} {n : List UInt8} {r : List (List UInt8)} (h : s.ino ≠ 0) (hk : (getN l s.ino).kind ≠ 2) : atN l s (n :: r) = (zeroS, 3) := by rw [atN, if_neg h, if_neg hk]
theorem at_on {l : List Nd} {s : Sp} {n : List UInt8} {r : List (List UInt8)} (h : s.ino ≠ 0) (hk : (getN l s.ino).kind = 2) : atN l s (n :: r) = atN l (stepS l s.ino n) r := by rw [atN, if_neg h, if_pos hk]
theorem at_append {l : List Nd} (a : List (List UInt8)) : ∀ {s t : Sp} (b : List (List UInt8)), atN l s a = (t, 0) → atN l s (a ++ b) = atN l t b := by
  induction a with
  | nil => intro s t b h; rw [show t = s from (Prod.mk.inj h).1.symm]; rfl
  | cons n r ih =>
    intro s t b h
    by_cases h0 : s.ino = 0
    · rw [at_gone h0] at h; cases h
    · by_cases hk : (getN l s.ino).kind = 2
      · rw [at_on h0 hk] at h
        rw [List.cons_append, at_on h0 hk]; exact ih b h
      · rw [at_file h0 hk] at h; cases h
theorem num_mem {es : List Ent} (h : es.Pairwise (fun a b => a.1 ≠ b.1)) {e : Ent} (he : e ∈ es) : numB es e.1 = e.2 ∧ hasB es e.1 = true := by
  obtain ⟨k, hk, rfl⟩ := List.getElem_of_mem he
  refine find_at hk ?_ rfl
  rw [List.any_eq_false]
  intro x hx
  obtain ⟨j, hj, rfl⟩ := List.getElem_of_mem hx
  have hjk : j < k := by simp at hj; omega
  rw [List.getElem_take]
  simpa using List.pairwise_iff_getElem.1 h j k (by omega) hk hjk
theorem ent_pos {l : List Nd} (t : Tree l) {i : Int} : ∀ e ∈ (getN l i).ents, 0 < e.2 := by
  intro e he
  cases hh : hasN l i
  · rw [getN_none hh] at he; cases he
  · have hm := (get_mem hh).1
    have hk : (getN l i).kind = 2 := Decidable.byContradiction fun hk => by rw [t.files _ hm hk] at he; cases he
    have := ((rightB_iff _).1 (t.rights _ hm hk)).1 e he
    unfold goodE at this
    rw [Bool.and_eq_true, decide_eq_true_eq] at this
    exact this.2
theorem ent_dir {l : List Nd} (t : Tree l) {i : Int} {e : Ent} (he : e ∈ (getN l i).ents) : (getN l i).kind = 2 ∧ hasN l i = true := by
  have : isDir l i = true := kids_dir t (by
    unfold kidsN
    intro h
    have h2 := List.map_eq_nil_iff.1 h
    rw [h2] at he; cases he)
  unfold isDir at this
  rw [Bool.and_eq_true, decide_eq_true_eq] at this
  exact ⟨this.2, this.1⟩
/-- What a walk's way ends in. -/
structure Ends (l : List Nd) (s0 s : Sp) (r : List (List UInt8)) (j : Int) : Prop where
  leads : atN l s0 r = (s, 0)
  ino : s.ino = j
  has : hasN l j = true
  pos : 0 < j
  none : r = [] → s = s0
  some : r ≠ [] → isDir l s.dir = true ∧ (s.name, j) ∈ (getN l s.dir).ents ∧ r.getLast? = some s.name
theorem tree_at {l : List Nd} (t : Tree l) (d : Nat) : ∀ i ns, ∀ q ∈ treeN l d i ns, ∀ s0 : Sp, s0.ino = i → 0 < i → ∃ r s, q.1 = ns ++ r ∧ Ends l s0 s r q.2 := by
  induction d with
  | zero => intro i ns q hq; cases hq
  | succ d ih =>
    intro i ns q hq s0 hs hi
    unfold treeN at hq
    split at hq
    · rename_i hh
      rcases List.mem_cons.1 hq with rfl | hq
      · exact ⟨[], s0, by simp, rfl, hs, hh, hi, fun _ => rfl, fun h => absurd rfl h⟩
      · obtain ⟨e, he, hq⟩ := List.mem_flatMap.1 hq
        have hp := ent_pos t e he
        have hk := (ent_dir t he).1
        have hnum := (num_mem (ents_pair t i) he).1
        have hino := (get_mem hh).2
        obtain ⟨r, s, h1, h2⟩ := ih e.2 _ q hq (stepS l i e.1) hnum hp
        refine ⟨e.1 :: r, s, by rw [h1]; simp, ?_, h2.ino, h2.has, h2.pos, fun h => (by cases h), fun _ => ?_⟩
        · rw [at_on (by omega) (by rw [hs]; exact hk), hs]; exact h2.leads
        · by_cases hr : r = []
          · have e1 := h2.none hr
            subst hr
            have e2 := h2.ino
            rw [e1] at e2
            rw [e1]
            have e3 : (stepS l i e.1).dir = i := hino
            refine ⟨?_, ?_, rfl⟩
            · rw [e3]; unfold isDir; rw [hh, hk]; rfl
            · rw [e3]
              have e4 : (stepS l i e.1).ino = e.2 := hnum
              rw [e4] at e2
              rw [← e2]; exact he
          · obtain ⟨h3, h4, h5⟩ := h2.some hr
            refine ⟨h3, h4, ?_⟩
            cases r with
            | nil => exact absurd rfl hr
            | cons a r => rw [List.getLast?_cons_cons]; exact h5
    · cases hq
/-- Each path of the walk leads to what it was told with. -/
theorem list_at {l : List Nd} (t : Tree l) {k : Nat} (h : k < (listN l).length) : ∃ ns s, ns.all mayB = true ∧ (listN l)[k].1 = joinB ns ∧ Ends l rootS s ns (listN l)[k].2 ∧ (0 < k → ns ≠ []) ∧ (k = 0 → ns = []) := by
  have hm := List.getElem_mem h
  have hne : 0 < k → (listN l)[k].1 ≠ [47] := by
    intro h0 e
    obtain ⟨r, hr⟩ := list_head t
    have h1 := order_ne t h0 h
    have h2 : (listN l)[0]'(by omega) = ([47], 1) := by simp [hr]
    rw [h2] at h1
    exact h1 e.symm
  have hz : k = 0 → (listN l)[k].1 = [47] := by
    intro h0
    obtain ⟨r, hr⟩ := list_head t
    subst h0
    simp [hr]
  have e := list_tree t
  generalize (listN l)[k] = q at *
  rw [e] at hm
  obtain ⟨z, hz2, rfl⟩ := List.mem_map.1 hm
  obtain ⟨r, s, h1, h2⟩ := tree_at t _ _ _ z hz2 rootS rfl (by decide)
  rw [List.nil_append] at h1
  have hmay := tree_may t _ _ _ rfl z hz2
  refine ⟨z.1, s, hmay, rfl, by rw [h1]; exact h2, ?_, ?_⟩
  · intro h0 hn
    exact hne h0 (by show joinB z.1 = _; rw [hn]; rfl)
  · intro h0
    have := hz h0
    exact joinB_inj (mayB_all hmay) (fun n hn => nomatch hn) (show joinB z.1 = joinB [] from this)
theorem list_atP {l : List Nd} {ns : List (List UInt8)} {s : Sp} {j : Int} (hm : ns.all mayB = true) (h : Ends l rootS s ns j) : atP l (joinB ns) = (s, 0) ∧ getP l (joinB ns) = (getN l j, 0) := by
  have h1 : atP l (joinB ns) = (s, 0) := by
    unfold atP
    rw [plainB_join hm]; exact h.leads
  refine ⟨h1, ?_⟩
  unfold getP
  rw [h1, if_neg (by simp), if_neg (by rw [h.ino]; have := h.pos; omega), h.ino]
/-- Behind what is no directory nothing leads on. -/
theorem more_bad {l : List Nd} {ns : List (List UInt8)} {s : Sp} {j : Int} (hm : ns.all mayB = true) (h : Ends l rootS s ns j) (hk : (getN l j).kind ≠ 2) (name : List UInt8) : (atP l (joinB ns ++ 47 :: name)).2 ≠ 0 := by
  have hg := mayB_all hm
  unfold atP
  cases hp : plainB (joinB ns ++ 47 :: name) with
  | none => exact (by decide : (9 : Int) ≠ 0)
  | some ms =>
    obtain ⟨h1, h2, h3⟩ := plainB_yes hp
    have h4 : namesB (joinB ns ++ 47 :: name) = ns ++ namesB name := by rw [joinB, List.cons_append, namesB_slash, namesB_inter_more _ _ hg]
    rw [h3] at h4
    cases hn : namesB name with
    | nil =>
      rw [hn, List.append_nil] at h4
      rw [h4] at h1
      have := congrArg List.length h1
      simp at this
    | cons c r =>
      show (atN l rootS ms).2 ≠ 0
      rw [h4, hn, at_append _ _ h.leads, at_file (by rw [h.ino]; have := h.pos; omega) (by rw [h.ino]; exact hk)]
      decide

/-! ### An entry put, an entry taken -/
def putN (l : List Nd) (s : Sp) (i : Int) (ev : Go.Value) : List Nd := setN l { getN l s.dir with ents := withB (getN l s.dir).ents s.name i, ev := ev }
def takeN (l : List Nd) (s : Sp) (ev : Go.Value) : List Nd := setN l { getN l s.dir with ents := withoutB (getN l s.dir).ents s.name, ev := ev }
theorem setN_key (l : List Nd) {x y : Nd} (h : x.key = y.key) : (setN l x).map Nd.key = (setN l y).map Nd.key := by
  have hi : x.ino = y.ino := (Prod.mk.inj h).1
  unfold setN
  rw [hi, List.map_append, List.map_append, List.map_cons, List.map_cons, h]
theorem put_same (l : List Nd) (s : Sp) (i : Int) (a b : Go.Value) : onesB (putN l s i a) (putN l s i b) = true := decide_eq_true (setN_key l rfl)
theorem take_same (l : List Nd) (s : Sp) (a b : Go.Value) : onesB (takeN l s a) (takeN l s b) = true := decide_eq_true (setN_key l rfl)

/-! ### What the calls ask of a table -/
structure Calm (l : List Nd) : Prop where
  rise : riseP l
  right : ∀ x ∈ l, rightB x.ents = true
  size : ∀ x ∈ l, x.ents.length ≤ 1000 ∧ x.data.length ≤ 5000 ∧ shortP 300 x.ents
  len : l.length ≤ 1000
theorem calm_of {mi mb nx : Int} {l : List Nd} (h : okB mi mb nx l = true) : Calm l := by
  have t := tree_of h
  have hf := (ok_parts h).1
  have hl := (few_ents hf).2.1
  refine ⟨t.rise, fun x hx => ?_, fun x hx => ?_, by omega⟩
  · by_cases hk : x.kind = 2
    · exact t.rights x hx hk
    · rw [t.files x hx hk]; rfl
  · unfold fewN at hf
    rw [Bool.and_eq_true, List.all_eq_true] at hf
    have := hf.2 x hx
    unfold fewX at this
    simp only [Bool.and_eq_true, decide_eq_true_eq, List.all_eq_true] at this
    exact ⟨by omega, this.1.1, this.2⟩
/-- A sound table of calm sizes: what the walks ask. -/
structure OkS (mi mb nx : Int) (l : List Nd) : Prop where
  check : checkN mi mb nx l = 0
  calm : Calm l
theorem ok_s {mi mb nx : Int} {l : List Nd} (h : okB mi mb nx l = true) : OkS mi mb nx l := ⟨ok_check h, calm_of h⟩
theorem calm_get {l : List Nd} (h : Calm l) (i : Int) : rightB (getN l i).ents = true ∧ (getN l i).ents.length ≤ 1000 ∧ (getN l i).data.length ≤ 5000 ∧ shortP 300 (getN l i).ents := by
  cases hh : hasN l i
  · rw [getN_none hh]; exact ⟨rfl, Nat.zero_le _, Nat.zero_le _, fun _ h => (nomatch h)⟩
  · have hm := (get_mem hh).1
    exact ⟨h.right _ hm, h.size _ hm⟩
theorem calm_ents {l : List Nd} (h : Calm l) (i : Int) : sortP (getN l i).ents ∧ (getN l i).ents.length ≤ 1000 ∧ shortP 100000000 (getN l i).ents :=
  ⟨((rightB_iff _).1 (calm_get h i).1).2, (calm_get h i).2.1, fun e he => Nat.le_trans ((calm_get h i).2.2.2 e he) (by decide)⟩
end Go.Proofs.YtoejjdebfjepaaaGreat
