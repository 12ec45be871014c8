/- Directories' entries as lists: right ones, looked for, put in and taken away. No program's function. -/
import Derived.Test.YtghncegngmeleaaMayB
import Derived.Lib.Bytealg
namespace Go.Proofs.Ytghncegngmeleaa

/-- An entry: its name, its number. -/
abbrev Ent : Type := List UInt8 × Int
abbrev ltB (a b : List UInt8) : Bool := Op.bytesLess a b

theorem lt_irrefl : ∀ a : List UInt8, ltB a a = false
  | [] => by simp [ltB, Op.bytesLess]
  | c :: a => by
    have := lt_irrefl a
    simp only [ltB] at this
    simp [ltB, Op.bytesLess, this, UInt8.lt_irrefl]
theorem lt_trans : ∀ a b c : List UInt8, ltB a b = true → ltB b c = true → ltB a c = true
  | a, b, [], _, h => by cases b <;> simp [ltB, Op.bytesLess] at h
  | a, [], c :: z, h, _ => by cases a <;> simp [ltB, Op.bytesLess] at h
  | [], b :: y, c :: z, _, _ => by simp [ltB, Op.bytesLess]
  | a :: x, b :: y, c :: z, h1, h2 => by
    have ih := lt_trans x y z
    simp only [ltB, Op.bytesLess, Bool.or_eq_true, Bool.and_eq_true, decide_eq_true_eq, beq_iff_eq] at h1 h2 ih ⊢
    rcases h1 with h1 | ⟨rfl, h1⟩
    · rcases h2 with h2 | ⟨rfl, h2⟩
      · exact .inl (UInt8.lt_trans h1 h2)
      · exact .inl h1
    · rcases h2 with h2 | ⟨rfl, h2⟩
      · exact .inl h2
      · exact .inr ⟨rfl, ih h1 h2⟩
theorem lt_tri : ∀ a b : List UInt8, ltB a b = false → ltB b a = false → a = b
  | [], [], _, _ => rfl
  | [], _ :: _, h, _ => by simp [ltB, Op.bytesLess] at h
  | _ :: _, [], _, h => by simp [ltB, Op.bytesLess] at h
  | a :: x, b :: y, h1, h2 => by
    have ih := lt_tri x y
    simp only [ltB, Op.bytesLess, Bool.or_eq_false_iff, Bool.and_eq_false_iff, decide_eq_false_iff_not] at h1 h2 ih
    have e : a = b := by
      rcases Nat.lt_trichotomy a.toNat b.toNat with h | h | h
      · exact absurd (UInt8.lt_iff_toNat_lt.2 h) h1.1
      · exact UInt8.toNat_inj.1 h
      · exact absurd (UInt8.lt_iff_toNat_lt.2 h) h2.1
    subst e
    rw [ih (h1.2.resolve_left (by simp)) (h2.2.resolve_left (by simp))]
theorem lt_asym {a b : List UInt8} (h : ltB a b = true) : ltB b a = false := by
  rw [Bool.eq_false_iff]; intro h2
  have := lt_trans a b a h h2
  rw [lt_irrefl] at this; cases this
theorem lt_ne {a b : List UInt8} (h : ltB a b = true) : a ≠ b := by
  rintro rfl; rw [lt_irrefl] at h; cases h
theorem cmp_lt : ∀ a b : List UInt8, decide (Lib.compareBytes a b < 0) = ltB a b
  | [], [] => by simp [Lib.compareBytes, ltB, Op.bytesLess]
  | [], _ :: _ => by simp [Lib.compareBytes, ltB, Op.bytesLess]
  | _ :: _, [] => by simp [Lib.compareBytes, ltB, Op.bytesLess]
  | a :: x, b :: y => by
    have ih := cmp_lt x y
    by_cases h1 : a < b
    · simp [Lib.compareBytes, ltB, Op.bytesLess, h1]
    · by_cases h2 : b < a
      · have hne : a ≠ b := by rintro rfl; exact UInt8.lt_irrefl _ h2
        simp [Lib.compareBytes, ltB, Op.bytesLess, h1, h2, hne]
      · have e : a = b := by
          rcases Nat.lt_trichotomy a.toNat b.toNat with h | h | h
          · exact absurd (UInt8.lt_iff_toNat_lt.2 h) h1
          · exact UInt8.toNat_inj.1 h
          · exact absurd (UInt8.lt_iff_toNat_lt.2 h) h2
        subst e
        simp only [Lib.compareBytes, if_neg h1, ih]
        simp [ltB, Op.bytesLess, h1]
theorem cmp_eq0 : ∀ a b : List UInt8, (Lib.compareBytes a b == 0) = (a == b)
  | [], [] => by simp [Lib.compareBytes]
  | [], _ :: _ => by simp [Lib.compareBytes]
  | _ :: _, [] => by simp [Lib.compareBytes]
  | a :: x, b :: y => by
    have ih := cmp_eq0 x y
    by_cases h1 : a < b
    · have hne : a ≠ b := by rintro rfl; exact UInt8.lt_irrefl _ h1
      simp [Lib.compareBytes, h1, hne]
    · by_cases h2 : b < a
      · have hne : a ≠ b := by rintro rfl; exact UInt8.lt_irrefl _ h2
        simp [Lib.compareBytes, h1, h2, hne]
      · have e : a = b := by
          rcases Nat.lt_trichotomy a.toNat b.toNat with h | h | h
          · exact absurd (UInt8.lt_iff_toNat_lt.2 h) h1
          · exact UInt8.toNat_inj.1 h
          · exact absurd (UInt8.lt_iff_toNat_lt.2 h) h2
        subst e
        simp only [Lib.compareBytes, if_neg h1, ih]
        simp
theorem cmp_range (a b : List UInt8) : Lib.compareBytes a b = -1 ∨ Lib.compareBytes a b = 0 ∨ Lib.compareBytes a b = 1 := by
  induction a generalizing b with
  | nil => cases b <;> simp [Lib.compareBytes]
  | cons x a ih =>
    cases b with
    | nil => simp [Lib.compareBytes]
    | cons y b =>
      simp only [Lib.compareBytes]
      split
      · simp
      · split
        · simp
        · exact ih b

def goodE (e : Ent) : Bool := mayB e.1 && decide (0 < e.2)
abbrev sortP (l : List Ent) : Prop := l.Pairwise (fun a b => ltB a.1 b.1 = true)
def rightP (l : List Ent) : Prop := (∀ e ∈ l, goodE e = true) ∧ sortP l
def rightB (l : List Ent) : Bool := l.all goodE && decide (sortP l)
theorem rightB_iff (l : List Ent) : rightB l = true ↔ rightP l := by
  simp [rightB, rightP, List.all_eq_true]
theorem right_take {l : List Ent} (h : rightP l) (k : Nat) : rightP (l.take k) :=
  ⟨fun e he => h.1 e (List.mem_of_mem_take he), List.Pairwise.sublist (List.take_sublist k l) h.2⟩
theorem sort_snoc (l : List Ent) (e : Ent) : sortP (l ++ [e]) ↔ sortP l ∧ ∀ a ∈ l, ltB a.1 e.1 = true := by
  simp [sortP, List.pairwise_append]
theorem right_bad {l : List Ent} {k : Nat} (h : k < l.length) (hg : goodE l[k] = false) : rightB l = false := by
  rw [Bool.eq_false_iff, Ne, rightB_iff]
  intro hr
  rw [hr.1 _ (List.getElem_mem h)] at hg; cases hg
theorem right_unsorted {l : List Ent} {k : Nat} (h : k + 1 < l.length) (hg : ltB (l[k]'(by omega)).1 l[k + 1].1 = false) : rightB l = false := by
  rw [Bool.eq_false_iff, Ne, rightB_iff]
  intro hr
  rw [List.pairwise_iff_getElem.1 hr.2 k (k + 1) (by omega) h (by omega)] at hg; cases hg
theorem right_next {l : List Ent} {k : Nat} (h : k < l.length) (hr : rightP (l.take k)) (hg : goodE l[k] = true) (hs : ∀ j (hj : j < l.length), j + 1 = k → ltB l[j].1 l[k].1 = true) : rightP (l.take (k + 1)) := by
  rw [List.take_succ_eq_append_getElem h]
  refine ⟨fun e he => ?_, ?_⟩
  · rcases List.mem_append.1 he with he | he
    · exact hr.1 e he
    · rw [List.mem_singleton] at he; rw [he]; exact hg
  · rw [sort_snoc]
    refine ⟨hr.2, fun a ha => ?_⟩
    obtain ⟨i, hi, rfl⟩ := List.getElem_of_mem ha
    have hik : i < k := by simp at hi; omega
    rw [List.getElem_take]
    rcases Nat.lt_or_ge (i + 1) k with hi1 | hi1
    · have h0 := hs (k - 1) (by omega) (by omega)
      have h1 := List.pairwise_iff_getElem.1 hr.2 i (k - 1) (by simp; omega) (by simp; omega) (by omega)
      rw [List.getElem_take, List.getElem_take] at h1
      exact lt_trans _ _ _ h1 h0
    · exact hs i (by omega) (by omega)
theorem right_end {l : List Ent} (hr : rightP (l.take l.length)) : rightB l = true := by
  rw [List.take_length] at hr; exact (rightB_iff l).2 hr

def numB (l : List Ent) (n : List UInt8) : Int := ((l.find? (fun e => e.1 == n)).map (·.2)).getD 0
def hasB (l : List Ent) (n : List UInt8) : Bool := l.any (fun e => e.1 == n)
theorem find_at {l : List Ent} {n : List UInt8} {k : Nat} (h : k < l.length) (hb : (l.take k).any (fun e => e.1 == n) = false) (hk : l[k].1 = n) : numB l n = l[k].2 ∧ hasB l n = true := by
  have hl : l = l.take k ++ l[k] :: l.drop (k + 1) := by rw [← List.drop_eq_getElem_cons, List.take_append_drop]
  have hf : (l.take k).find? (fun e => e.1 == n) = none := by
    rw [List.find?_eq_none]; intro e he
    have := (List.any_eq_false.1 hb) e he
    exact this
  constructor
  · unfold numB
    have e1 : l.find? (fun e => e.1 == n) = some l[k] := by
      have e2 : (l.take k ++ l[k] :: l.drop (k + 1)).find? (fun e => e.1 == n) = some l[k] := by rw [List.find?_append, hf, List.find?_cons_of_pos (by simp [hk])]; rfl
      rwa [← hl] at e2
    rw [e1]; rfl
  · unfold hasB; rw [List.any_eq_true]; exact ⟨_, List.getElem_mem h, by simp [hk]⟩
theorem find_none {l : List Ent} {n : List UInt8} (hb : l.any (fun e => e.1 == n) = false) : numB l n = 0 ∧ hasB l n = false := by
  refine ⟨?_, hb⟩
  have hf : l.find? (fun e => e.1 == n) = none := by
    rw [List.find?_eq_none]; intro e he
    exact (List.any_eq_false.1 hb) e he
  unfold numB; rw [hf]; rfl
theorem any_next {l : List Ent} {n : List UInt8} {k : Nat} (h : k < l.length) (hb : (l.take k).any (fun e => e.1 == n) = false) (hk : l[k].1 ≠ n) : (l.take (k + 1)).any (fun e => e.1 == n) = false := by
  rw [List.take_succ_eq_append_getElem h, List.any_append, hb]; simp [hk]

def aheadB (l : List Ent) (n : List UInt8) : List Ent := l.filter (fun e => ltB e.1 n)
def behindB (l : List Ent) (n : List UInt8) : List Ent := l.filter (fun e => ltB n e.1)
def withB (l : List Ent) (n : List UInt8) (i : Int) : List Ent := aheadB l n ++ (n, i) :: behindB l n
def withoutB (l : List Ent) (n : List UInt8) : List Ent := aheadB l n ++ behindB l n

/-- Where the search comes to. -/
def SrchP (l : List Ent) (n : List UInt8) (lo : Nat) : Prop :=
  lo ≤ l.length ∧ l.take lo = aheadB l n ∧ (hasB l n = true → ∃ h : lo < l.length, l[lo].1 = n ∧ l.drop (lo + 1) = behindB l n) ∧ (hasB l n = false → l.drop lo = behindB l n)

theorem filter_all {l : List Ent} {p : Ent → Bool} (h : ∀ e ∈ l, p e = true) : l.filter p = l := List.filter_eq_self.2 h
theorem filter_none {l : List Ent} {p : Ent → Bool} (h : ∀ e ∈ l, p e = false) : l.filter p = [] := by
  rw [List.filter_eq_nil_iff]; intro e he; rw [h e he]; simp
theorem srch_end {l : List Ent} {n : List UInt8} {lo : Nat} (hs : sortP l) (hlo : lo ≤ l.length) (h1 : ∀ t (ht : t < l.length), t < lo → ltB l[t].1 n = true) (h2 : ∀ t (ht : t < l.length), lo ≤ t → ltB l[t].1 n = false) :
    SrchP l n lo ∧ hasB l n = (if h : lo < l.length then l[lo].1 == n else false) := by
  have hl : l = l.take lo ++ l.drop lo := (List.take_append_drop _ _).symm
  have ha : ∀ e ∈ l.take lo, ltB e.1 n = true := by
    intro e he
    obtain ⟨t, ht, rfl⟩ := List.getElem_of_mem he
    rw [List.getElem_take]; exact h1 t (by simp at ht; omega) (by simp at ht; omega)
  have hd : ∀ e ∈ l.drop lo, ltB e.1 n = false := by
    intro e he
    obtain ⟨t, ht, rfl⟩ := List.getElem_of_mem he
    rw [List.getElem_drop]; exact h2 (lo + t) (by simp at ht; omega) (by omega)
  have hah : aheadB l n = l.take lo := by
    unfold aheadB; conv => lhs; rw [hl]
    rw [List.filter_append, filter_all ha, filter_none hd, List.append_nil]
  have hbt : (l.take lo).filter (fun e => ltB n e.1) = [] := filter_none fun e he => lt_asym (ha e he)
  have hbe : behindB l n = (l.drop lo).filter (fun e => ltB n e.1) := by
    unfold behindB; conv => lhs; rw [hl]
    rw [List.filter_append, hbt, List.nil_append]
  have hat : (l.take lo).any (fun e => e.1 == n) = false := by
    rw [List.any_eq_false]; intro e he; simpa using lt_ne (ha e he)
  have hhas : hasB l n = (l.drop lo).any (fun e => e.1 == n) := by
    unfold hasB; conv => lhs; rw [hl]
    rw [List.any_append, hat, Bool.false_or]
  by_cases hlt : lo < l.length
  · have hdr : l.drop lo = l[lo] :: l.drop (lo + 1) := List.drop_eq_getElem_cons hlt
    have hsd : sortP (l.drop lo) := List.Pairwise.sublist (List.drop_sublist _ _) hs
    rw [hdr] at hsd
    have hgt := (List.pairwise_cons.1 hsd).1
    have hlo2 := h2 lo hlt (Nat.le_refl _)
    cases hc : ltB n l[lo].1
    · have e : l[lo].1 = n := lt_tri _ _ hlo2 hc
      have hT : hasB l n = true := by rw [hhas, hdr, List.any_cons]; simp [e]
      refine ⟨⟨hlo, hah.symm, fun _ => ⟨hlt, e, ?_⟩, fun h => by rw [hT] at h; cases h⟩, by rw [hT, dif_pos hlt]; simp [e]⟩
      rw [hbe, hdr, List.filter_cons_of_neg (by rw [hc]; simp), filter_all fun x hx => by rw [← e]; exact hgt x hx]
    · have hne : ∀ e ∈ l.drop lo, ltB n e.1 = true := by
        intro e he
        rw [hdr, List.mem_cons] at he
        rcases he with rfl | he
        · exact hc
        · exact lt_trans _ _ _ hc (hgt e he)
      have hF : hasB l n = false := by rw [hhas, List.any_eq_false]; intro e he; simpa using (lt_ne (hne e he)).symm
      refine ⟨⟨hlo, hah.symm, fun h => (by rw [hF] at h; cases h), fun _ => by rw [hbe, filter_all hne]⟩, ?_⟩
      rw [hF, dif_pos hlt]; simpa using (lt_ne hc).symm
  · have hd0 : l.drop lo = [] := List.drop_eq_nil_of_le (by omega)
    have hF : hasB l n = false := by rw [hhas, hd0]; rfl
    refine ⟨⟨hlo, hah.symm, fun h => (by rw [hF] at h; cases h), fun _ => by rw [hbe, hd0]; rfl⟩, ?_⟩
    rw [hF, dif_neg hlt]
theorem sort_upto {l : List Ent} {n : List UInt8} {a b : Nat} (hs : sortP l) (hb : b < l.length) (hab : a ≤ b) (h : ltB l[b].1 n = true) : ltB (l[a]'(by omega)).1 n = true := by
  rcases Nat.lt_or_ge a b with h1 | h1
  · exact lt_trans _ _ _ (List.pairwise_iff_getElem.1 hs a b (by omega) hb h1) h
  · obtain rfl : a = b := by omega
    exact h

theorem find_srch {l : List Ent} {n : List UInt8} {lo : Nat} (h : SrchP l n lo) (hh : hasB l n = true) : ∃ hk : lo < l.length, numB l n = l[lo].2 := by
  obtain ⟨_, ht, hy, _⟩ := h
  obtain ⟨hk, e, _⟩ := hy hh
  refine ⟨hk, (find_at hk ?_ e).1⟩
  rw [ht, List.any_eq_false]
  intro x hx
  simpa using lt_ne (List.mem_filter.1 hx).2

/-- The document's way. -/
theorem without_eq {l : List Ent} (n : List UInt8) (hs : sortP l) : l.filter (fun e => e.1 != n) = withoutB l n := by
  induction l with
  | nil => rfl
  | cons e t ih =>
    obtain ⟨h1, h2⟩ := List.pairwise_cons.1 hs
    have ih := ih h2
    unfold withoutB aheadB behindB at *
    cases hc : ltB e.1 n
    · have ha : t.filter (fun x => ltB x.1 n) = [] := filter_none fun x hx => by
        rw [Bool.eq_false_iff]; intro hx2
        rw [lt_trans _ _ _ (h1 x hx) hx2] at hc; cases hc
      rw [ha] at ih
      rw [List.filter_cons_of_neg (p := fun x : Ent => ltB x.1 n) (by simp [hc]), ha]
      cases hd : ltB n e.1
      · have he : e.1 = n := lt_tri _ _ hc hd
        rw [List.filter_cons_of_neg (p := fun x : Ent => x.1 != n) (by simp [he]), List.filter_cons_of_neg (p := fun x : Ent => ltB n x.1) (by simp [hd]), ih]
      · rw [List.filter_cons_of_pos (p := fun x : Ent => x.1 != n) (by simpa using (lt_ne hd).symm), List.filter_cons_of_pos (p := fun x : Ent => ltB n x.1) hd, ih]; rfl
    · rw [List.filter_cons_of_pos (p := fun x : Ent => x.1 != n) (by simpa using lt_ne hc), List.filter_cons_of_pos (p := fun x : Ent => ltB x.1 n) hc, List.filter_cons_of_neg (p := fun x : Ent => ltB n x.1) (by simp [lt_asym hc]), ih]; rfl
def insB (n : List UInt8) (i : Int) : List Ent → List Ent
  | [] => [(n, i)]
  | e :: r => if ltB n e.1 = true then (n, i) :: e :: r else e :: insB n i r
theorem ins_eq {l : List Ent} (n : List UInt8) (i : Int) (hs : sortP l) : insB n i (withoutB l n) = withB l n i := by
  have hb : insB n i (behindB l n) = (n, i) :: behindB l n := by
    cases h : behindB l n with
    | nil => rfl
    | cons e r =>
      have : e ∈ behindB l n := by rw [h]; simp
      rw [insB, if_pos (List.mem_filter.1 this).2]
  unfold withoutB withB
  have ha : ∀ x ∈ aheadB l n, ltB n x.1 = false := fun x hx => lt_asym (List.mem_filter.1 hx).2
  generalize aheadB l n = A at ha
  induction A with
  | nil => simpa using hb
  | cons x A ih =>
    rw [List.cons_append, insB, if_neg (by rw [ha x (by simp)]; simp), ih fun y hy => ha y (by simp [hy])]; rfl

theorem with_sort {l : List Ent} (n : List UInt8) (i : Int) (hs : sortP l) : sortP (withB l n i) := by
  unfold withB sortP
  rw [List.pairwise_append, List.pairwise_cons]
  refine ⟨List.Pairwise.sublist List.filter_sublist hs, ⟨fun x hx => (List.mem_filter.1 hx).2, List.Pairwise.sublist List.filter_sublist hs⟩, fun a ha b hb => ?_⟩
  have h1 := (List.mem_filter.1 ha).2
  rcases List.mem_cons.1 hb with rfl | hb
  · exact h1
  · exact lt_trans _ _ _ h1 (List.mem_filter.1 hb).2
theorem without_sort {l : List Ent} (n : List UInt8) (hs : sortP l) : sortP (withoutB l n) := by
  unfold withoutB sortP
  rw [List.pairwise_append]
  refine ⟨List.Pairwise.sublist List.filter_sublist hs, List.Pairwise.sublist List.filter_sublist hs, fun a ha b hb => ?_⟩
  exact lt_trans _ _ _ (List.mem_filter.1 ha).2 (List.mem_filter.1 hb).2
theorem with_right {l : List Ent} {n : List UInt8} {i : Int} (hr : rightP l) (hg : goodE (n, i) = true) : rightP (withB l n i) := by
  refine ⟨fun e he => ?_, with_sort n i hr.2⟩
  unfold withB at he
  rcases List.mem_append.1 he with he | he
  · exact hr.1 e (List.mem_filter.1 he).1
  · rcases List.mem_cons.1 he with rfl | he
    · exact hg
    · exact hr.1 e (List.mem_filter.1 he).1
theorem without_right {l : List Ent} (n : List UInt8) (hr : rightP l) : rightP (withoutB l n) := by
  refine ⟨fun e he => ?_, without_sort n hr.2⟩
  unfold withoutB at he
  rcases List.mem_append.1 he with he | he <;> exact hr.1 e (List.mem_filter.1 he).1
theorem find_filter (l : List Ent) (p : Ent → Bool) (n : List UInt8) (hp : ∀ e : Ent, e.1 = n → p e = true) : (l.filter p).find? (fun e => e.1 == n) = l.find? (fun e => e.1 == n) := by
  induction l with
  | nil => rfl
  | cons e t ih =>
    by_cases he : e.1 = n
    · rw [List.filter_cons_of_pos (hp e he), List.find?_cons_of_pos (by simp [he]), List.find?_cons_of_pos (by simp [he])]
    · rw [List.find?_cons_of_neg (by simpa using he)]
      cases hpe : p e
      · rw [List.filter_cons_of_neg (by simp [hpe]), ih]
      · rw [List.filter_cons_of_pos hpe, List.find?_cons_of_neg (by simpa using he), ih]
theorem has_find (l : List Ent) (n : List UInt8) : hasB l n = (l.find? (fun e => e.1 == n)).isSome := by
  unfold hasB; rw [Bool.eq_iff_iff, List.any_eq_true, List.find?_isSome]
theorem without_find {l : List Ent} (m n : List UInt8) (hs : sortP l) : (withoutB l m).find? (fun e => e.1 == n) = if m = n then none else l.find? (fun e => e.1 == n) := by
  rw [← without_eq m hs]
  split
  · rename_i h; subst h
    rw [List.find?_eq_none]; intro e he
    have := (List.mem_filter.1 he).2
    simpa using this
  · rename_i h
    exact find_filter l _ n fun e he => by simpa [he] using fun e => h e.symm
theorem with_find {l : List Ent} (m n : List UInt8) (i : Int) (hs : sortP l) : (withB l m i).find? (fun e => e.1 == n) = if m = n then some (m, i) else l.find? (fun e => e.1 == n) := by
  have ha : ∀ e ∈ aheadB l m, e.1 ≠ m := fun e he => lt_ne (List.mem_filter.1 he).2
  have key : (withB l m i).find? (fun e => e.1 == n) = if m = n then some (m, i) else (withoutB l m).find? (fun e => e.1 == n) := by
    unfold withB withoutB
    rw [List.find?_append, List.find?_append]
    split
    · rename_i h; subst h
      rw [List.find?_eq_none.2 fun e he => by simpa using ha e he, List.find?_cons_of_pos (by simp)]; rfl
    · rename_i h
      rw [List.find?_cons_of_neg (by simpa using h)]
  rw [key, without_find m n hs]
  split
  · rfl
  · rfl
theorem with_num {l : List Ent} (m n : List UInt8) (i : Int) (hs : sortP l) : numB (withB l m i) n = if m = n then i else numB l n := by
  unfold numB; rw [with_find m n i hs]; split <;> rfl
theorem with_has {l : List Ent} (m n : List UInt8) (i : Int) (hs : sortP l) : hasB (withB l m i) n = if m = n then true else hasB l n := by
  rw [has_find, with_find m n i hs]; split
  · rfl
  · rw [has_find]
theorem without_num {l : List Ent} (m n : List UInt8) (hs : sortP l) : numB (withoutB l m) n = if m = n then 0 else numB l n := by
  unfold numB; rw [without_find m n hs]; split <;> rfl
theorem without_has {l : List Ent} (m n : List UInt8) (hs : sortP l) : hasB (withoutB l m) n = if m = n then false else hasB l n := by
  rw [has_find, without_find m n hs]; split
  · rfl
  · rw [has_find]
theorem parts_len (l : List Ent) (n : List UInt8) : (aheadB l n).length + (behindB l n).length ≤ l.length := by
  unfold aheadB behindB
  induction l with
  | nil => simp
  | cons e t ih =>
    cases h : ltB e.1 n
    · rw [List.filter_cons_of_neg (p := fun x : Ent => ltB x.1 n) (by simp [h])]
      have := List.length_filter_le (fun x : Ent => ltB n x.1) [e]
      simp only [List.filter_cons] at *
      split <;> simp at * <;> omega
    · rw [List.filter_cons_of_pos (p := fun x : Ent => ltB x.1 n) h, List.filter_cons_of_neg (p := fun x : Ent => ltB n x.1) (by simp [lt_asym h])]
      simp; omega
theorem without_len (l : List Ent) (n : List UInt8) : (withoutB l n).length ≤ l.length := by
  have := parts_len l n; unfold withoutB; rw [List.length_append]; omega
theorem with_len (l : List Ent) (n : List UInt8) (i : Int) : (withB l n i).length ≤ l.length + 1 := by
  have := parts_len l n; unfold withB; rw [List.length_append, List.length_cons]; omega
def shortP (b : Nat) (l : List Ent) : Prop := ∀ e ∈ l, e.1.length ≤ b
theorem without_short {l : List Ent} {b : Nat} (n : List UInt8) (h : shortP b l) : shortP b (withoutB l n) := by
  intro e he
  unfold withoutB at he
  rcases List.mem_append.1 he with he | he <;> exact h e (List.mem_filter.1 he).1
theorem with_short {l : List Ent} {b : Nat} {n : List UInt8} (i : Int) (h : shortP b l) (hn : n.length ≤ b) : shortP b (withB l n i) := by
  intro e he
  unfold withB at he
  rcases List.mem_append.1 he with he | he
  · exact h e (List.mem_filter.1 he).1
  · rcases List.mem_cons.1 he with rfl | he
    · exact hn
    · exact h e (List.mem_filter.1 he).1
theorem may_len {n : List UInt8} (h : mayB n = true) : n.length ≤ 255 := by
  simp [mayB] at h; exact h.1.1.2
theorem right_short {l : List Ent} (h : rightP l) : shortP 255 l := by
  intro e he
  have := h.1 e he
  rw [goodE, Bool.and_eq_true] at this
  exact may_len this.1

def fewE (l : List Ent) : Bool := (l.take 100).all (fun s => decide (s.1.length ≤ 300)) && decide (l.length ≤ 50)
theorem fewE_no {l : List Ent} {k : Nat} (h : k < l.length) (h1 : k < 100) (h2 : 300 < l[k].1.length) : fewE l = false := by
  rw [Bool.eq_false_iff]
  intro hb
  simp only [fewE, Bool.and_eq_true, List.all_eq_true] at hb
  have hk : k < (l.take 100).length := by simp; omega
  have := hb.1 (l.take 100)[k] (List.getElem_mem hk)
  simp at this
  omega
theorem fewE_yes {l : List Ent} {k : Nat} (h : ∀ j (hj : j < l.length), j < k → l[j].1.length ≤ 300) (h2 : ¬ (k < l.length ∧ k < 100)) : fewE l = decide (l.length ≤ 50) := by
  unfold fewE
  have : (l.take 100).all (fun s => decide (s.1.length ≤ 300)) = true := by
    rw [List.all_eq_true]
    intro s hs
    obtain ⟨j, hj, rfl⟩ := List.getElem_of_mem hs
    have hj2 : j < l.length ∧ j < 100 := by simp at hj; omega
    have := h j hj2.1 (by omega)
    simpa using this
  rw [this]; simp
theorem fewE_small {l : List Ent} (h : fewE l = true) : l.length ≤ 50 ∧ shortP 300 l := by
  simp only [fewE, Bool.and_eq_true, List.all_eq_true, decide_eq_true_eq] at h
  refine ⟨h.2, fun x hx => ?_⟩
  rw [List.take_of_length_le (by omega)] at h
  exact h.1 x hx
end Go.Proofs.Ytghncegngmeleaa
