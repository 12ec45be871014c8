/- Texts put together: MayB, Pure04, Pure05, Pure06, Pure07, Pure08, Tree08, Tree08b, Pure03, Order08, Order08b, Pure09. -/
import Derived.Lib.Bytealg
set_option linter.unusedVariables false
set_option linter.unusedSimpArgs false
namespace Go.Proofs.YtkdmfeikikmiiaaGreat
def mayB (n : List UInt8) : Bool := !n.isEmpty && (n != [46]) && (n != [46, 46]) && decide (n.length ≤ 255) && !n.contains 47 && !n.contains 0
/-- An entry: its name, its number. -/
abbrev Ent : Type := List UInt8 × Int
abbrev ltB (a b : List UInt8) : Bool := Op.bytesLess a b
theorem lt_irrefl : ∀ a : List UInt8, ltB a a = false
  | [] => by simp [ltB, Op.bytesLess]
  | c :: a => by
    have := lt_irrefl a
    simp only [ltB] at this
    simp [ltB, Op.bytesLess, this, UInt8.lt_irrefl]
theorem lt_trans : ∀ a b c : List UInt8, ltB a b = true → ltB b c = true → ltB a c = true
  | a, b, [], _, h => by cases b <;> simp [ltB, Op.bytesLess] at h
  | a, [], c :: z, h, _ => by cases a <;> simp [ltB, Op.bytesLess] at h
  | [], b :: y, c :: z, _, _ => by simp [ltB, Op.bytesLess]
  | a :: x, b :: y, c :: z, h1, h2 => by
    have ih := lt_trans x y z
    simp only [ltB, Op.bytesLess, Bool.or_eq_true, Bool.and_eq_true, decide_eq_true_eq, beq_iff_eq] at h1 h2 ih ⊢
    rcases h1 with h1 | ⟨rfl, h1⟩
    · rcases h2 with h2 | ⟨rfl, h2⟩
      · exact .inl (UInt8.lt_trans h1 h2)
      · exact .inl h1
    · rcases h2 with h2 | ⟨rfl, h2⟩
      · exact .inl h2
      · exact .inr ⟨rfl, ih h1 h2⟩
theorem lt_tri : ∀ a b : List UInt8, ltB a b = false → ltB b a = false → a = b
  | [], [], _, _ => rfl
  | [], _ :: _, h, _ => by simp [ltB, Op.bytesLess] at h
  | _ :: _, [], _, h => by simp [ltB, Op.bytesLess] at h
  | a :: x, b :: y, h1, h2 => by
    have ih := lt_tri x y
    simp only [ltB, Op.bytesLess, Bool.or_eq_false_iff, Bool.and_eq_false_iff, decide_eq_false_iff_not] at h1 h2 ih
    have e : a = b := by
      rcases Nat.lt_trichotomy a.toNat b.toNat with h | h | h
      · exact absurd (UInt8.lt_iff_toNat_lt.2 h) h1.1
      · exact UInt8.toNat_inj.1 h
      · exact absurd (UInt8.lt_iff_toNat_lt.2 h) h2.1
    subst e
    rw [ih (h1.2.resolve_left (by simp)) (h2.2.resolve_left (by simp))]
theorem lt_asym {a b : List UInt8} (h : ltB a b = true) : ltB b a = false := by
  rw [Bool.eq_false_iff]; intro h2
  have := lt_trans a b a h h2
  rw [lt_irrefl] at this; cases this
theorem lt_ne {a b : List UInt8} (h : ltB a b = true) : a ≠ b := by
  rintro rfl; rw [lt_irrefl] at h; cases h
theorem cmp_lt : ∀ a b : List UInt8, decide (Lib.compareBytes a b < 0) = ltB a b
  | [], [] => by simp [Lib.compareBytes, ltB, Op.bytesLess]
  | [], _ :: _ => by simp [Lib.compareBytes, ltB, Op.bytesLess]
  | _ :: _, [] => by simp [Lib.compareBytes, ltB, Op.bytesLess]
  | a :: x, b :: y => by
    have ih := cmp_lt x y
    by_cases h1 : a < b
    · simp [Lib.compareBytes, ltB, Op.bytesLess, h1]
    · by_cases h2 : b < a
      · have hne : a ≠ b := by rintro rfl; exact UInt8.lt_irrefl _ h2
        simp [Lib.compareBytes, ltB, Op.bytesLess, h1, h2, hne]
      · have e : a = b := by
          rcases Nat.lt_trichotomy a.toNat b.toNat with h | h | h
          · exact absurd (UInt8.lt_iff_toNat_lt.2 h) h1
          · exact UInt8.toNat_inj.1 h
          · exact absurd (UInt8.lt_iff_toNat_lt.2 h) h2
        subst e
        simp only [Lib.compareBytes, if_neg h1, ih]
        simp [ltB, Op.bytesLess, h1]
theorem cmp_eq0 : ∀ a b : List UInt8, (Lib.compareBytes a b == 0) = (a == b)
  | [], [] => by simp [Lib.compareBytes]
  | [], _ :: _ => by simp [Lib.compareBytes]
  | _ :: _, [] => by simp [Lib.compareBytes]
  | a :: x, b :: y => by
    have ih := cmp_eq0 x y
    by_cases h1 : a < b
    · have hne : a ≠ b := by rintro rfl; exact UInt8.lt_irrefl _ h1
      simp [Lib.compareBytes, h1, hne]
    · by_cases h2 : b < a
      · have hne : a ≠ b := by rintro rfl; exact UInt8.lt_irrefl _ h2
        simp [Lib.compareBytes, h1, h2, hne]
      · have e : a = b := by
          rcases Nat.lt_trichotomy a.toNat b.toNat with h | h | h
          · exact absurd (UInt8.lt_iff_toNat_lt.2 h) h1
          · exact UInt8.toNat_inj.1 h
          · exact absurd (UInt8.lt_iff_toNat_lt.2 h) h2
        subst e
        simp only [Lib.compareBytes, if_neg h1, ih]
        simp
def goodE (e : Ent) : Bool := mayB e.1 && decide (0 < e.2)
abbrev sortP (l : List Ent) : Prop := l.Pairwise (fun a b => ltB a.1 b.1 = true)
def rightP (l : List Ent) : Prop := (∀ e ∈ l, goodE e = true) ∧ sortP l
def rightB (l : List Ent) : Bool := l.all goodE && decide (sortP l)
theorem rightB_iff (l : List Ent) : rightB l = true ↔ rightP l := by
  simp [rightB, rightP, List.all_eq_true]
theorem sort_snoc (l : List Ent) (e : Ent) : sortP (l ++ [e]) ↔ sortP l ∧ ∀ a ∈ l, ltB a.1 e.1 = true := by
  simp [sortP, List.pairwise_append]
theorem right_bad {l : List Ent} {k : Nat} (h : k < l.length) (hg : goodE l[k] = false) : rightB l = false := by
  rw [Bool.eq_false_iff, Ne, rightB_iff]
  intro hr
  rw [hr.1 _ (List.getElem_mem h)] at hg; cases hg
theorem right_unsorted {l : List Ent} {k : Nat} (h : k + 1 < l.length) (hg : ltB (l[k]'(by omega)).1 l[k + 1].1 = false) : rightB l = false := by
  rw [Bool.eq_false_iff, Ne, rightB_iff]
  intro hr
  rw [List.pairwise_iff_getElem.1 hr.2 k (k + 1) (by omega) h (by omega)] at hg; cases hg
theorem right_next {l : List Ent} {k : Nat} (h : k < l.length) (hr : rightP (l.take k)) (hg : goodE l[k] = true) (hs : ∀ j (hj : j < l.length), j + 1 = k → ltB l[j].1 l[k].1 = true) : rightP (l.take (k + 1)) := by
  rw [List.take_succ_eq_append_getElem h]
  refine ⟨fun e he => ?_, ?_⟩
  · rcases List.mem_append.1 he with he | he
    · exact hr.1 e he
    · rw [List.mem_singleton] at he; rw [he]; exact hg
  · rw [sort_snoc]
    refine ⟨hr.2, fun a ha => ?_⟩
    obtain ⟨i, hi, rfl⟩ := List.getElem_of_mem ha
    have hik : i < k := by simp at hi; omega
    rw [List.getElem_take]
    rcases Nat.lt_or_ge (i + 1) k with hi1 | hi1
    · have h0 := hs (k - 1) (by omega) (by omega)
      have h1 := List.pairwise_iff_getElem.1 hr.2 i (k - 1) (by simp; omega) (by simp; omega) (by omega)
      rw [List.getElem_take, List.getElem_take] at h1
      exact lt_trans _ _ _ h1 h0
    · exact hs i (by omega) (by omega)
theorem right_end {l : List Ent} (hr : rightP (l.take l.length)) : rightB l = true := by
  rw [List.take_length] at hr; exact (rightB_iff l).2 hr
def numB (l : List Ent) (n : List UInt8) : Int := ((l.find? (fun e => e.1 == n)).map (·.2)).getD 0
def hasB (l : List Ent) (n : List UInt8) : Bool := l.any (fun e => e.1 == n)
theorem find_at {l : List Ent} {n : List UInt8} {k : Nat} (h : k < l.length) (hb : (l.take k).any (fun e => e.1 == n) = false) (hk : l[k].1 = n) : numB l n = l[k].2 ∧ hasB l n = true := by
  have hl : l = l.take k ++ l[k] :: l.drop (k + 1) := by rw [← List.drop_eq_getElem_cons, List.take_append_drop]
  have hf : (l.take k).find? (fun e => e.1 == n) = none := by
    rw [List.find?_eq_none]; intro e he
    have := (List.any_eq_false.1 hb) e he
    exact this
  constructor
  · unfold numB
    have e1 : l.find? (fun e => e.1 == n) = some l[k] := by
      have e2 : (l.take k ++ l[k] :: l.drop (k + 1)).find? (fun e => e.1 == n) = some l[k] := by rw [List.find?_append, hf, List.find?_cons_of_pos (by simp [hk])]; rfl
      rwa [← hl] at e2
    rw [e1]; rfl
  · unfold hasB; rw [List.any_eq_true]; exact ⟨_, List.getElem_mem h, by simp [hk]⟩
theorem find_none {l : List Ent} {n : List UInt8} (hb : l.any (fun e => e.1 == n) = false) : numB l n = 0 ∧ hasB l n = false := by
  refine ⟨?_, hb⟩
  have hf : l.find? (fun e => e.1 == n) = none := by
    rw [List.find?_eq_none]; intro e he
    exact (List.any_eq_false.1 hb) e he
  unfold numB; rw [hf]; rfl
theorem any_next {l : List Ent} {n : List UInt8} {k : Nat} (h : k < l.length) (hb : (l.take k).any (fun e => e.1 == n) = false) (hk : l[k].1 ≠ n) : (l.take (k + 1)).any (fun e => e.1 == n) = false := by
  rw [List.take_succ_eq_append_getElem h, List.any_append, hb]; simp [hk]
def aheadB (l : List Ent) (n : List UInt8) : List Ent := l.filter (fun e => ltB e.1 n)
def behindB (l : List Ent) (n : List UInt8) : List Ent := l.filter (fun e => ltB n e.1)
def withB (l : List Ent) (n : List UInt8) (i : Int) : List Ent := aheadB l n ++ (n, i) :: behindB l n
def withoutB (l : List Ent) (n : List UInt8) : List Ent := aheadB l n ++ behindB l n
/-- Where the search comes to. -/
def SrchP (l : List Ent) (n : List UInt8) (lo : Nat) : Prop :=
  lo ≤ l.length ∧ l.take lo = aheadB l n ∧ (hasB l n = true → ∃ h : lo < l.length, l[lo].1 = n ∧ l.drop (lo + 1) = behindB l n) ∧ (hasB l n = false → l.drop lo = behindB l n)
theorem filter_all {l : List Ent} {p : Ent → Bool} (h : ∀ e ∈ l, p e = true) : l.filter p = l := List.filter_eq_self.2 h
theorem filter_none {l : List Ent} {p : Ent → Bool} (h : ∀ e ∈ l, p e = false) : l.filter p = [] := by
  rw [List.filter_eq_nil_iff]; intro e he; rw [h e he]; simp
theorem srch_end {l : List Ent} {n : List UInt8} {lo : Nat} (hs : sortP l) (hlo : lo ≤ l.length) (h1 : ∀ t (ht : t < l.length), t < lo → ltB l[t].1 n = true) (h2 : ∀ t (ht : t < l.length), lo ≤ t → ltB l[t].1 n = false) :
    SrchP l n lo ∧ hasB l n = (if h : lo < l.length then l[lo].1 == n else false) := by
  have hl : l = l.take lo ++ l.drop lo := (List.take_append_drop _ _).symm
  have ha : ∀ e ∈ l.take lo, ltB e.1 n = true := by
    intro e he
    obtain ⟨t, ht, rfl⟩ := List.getElem_of_mem he
    rw [List.getElem_take]; exact h1 t (by simp at ht; omega) (by simp at ht; omega)
  have hd : ∀ e ∈ l.drop lo, ltB e.1 n = false := by
    intro e he
    obtain ⟨t, ht, rfl⟩ := List.getElem_of_mem he
    rw [List.getElem_drop]; exact h2 (lo + t) (by simp at ht; omega) (by omega)
  have hah : aheadB l n = l.take lo := by
    unfold aheadB; conv => lhs; rw [hl]
    rw [List.filter_append, filter_all ha, filter_none hd, List.append_nil]
  have hbt : (l.take lo).filter (fun e => ltB n e.1) = [] := filter_none fun e he => lt_asym (ha e he)
  have hbe : behindB l n = (l.drop lo).filter (fun e => ltB n e.1) := by
    unfold behindB; conv => lhs; rw [hl]
    rw [List.filter_append, hbt, List.nil_append]
  have hat : (l.take lo).any (fun e => e.1 == n) = false := by
    rw [List.any_eq_false]; intro e he; simpa using lt_ne (ha e he)
  have hhas : hasB l n = (l.drop lo).any (fun e => e.1 == n) := by
    unfold hasB; conv => lhs; rw [hl]
    rw [List.any_append, hat, Bool.false_or]
  by_cases hlt : lo < l.length
  · have hdr : l.drop lo = l[lo] :: l.drop (lo + 1) := List.drop_eq_getElem_cons hlt
    have hsd : sortP (l.drop lo) := List.Pairwise.sublist (List.drop_sublist _ _) hs
    rw [hdr] at hsd
    have hgt := (List.pairwise_cons.1 hsd).1
    have hlo2 := h2 lo hlt (Nat.le_refl _)
    cases hc : ltB n l[lo].1
    · have e : l[lo].1 = n := lt_tri _ _ hlo2 hc
      have hT : hasB l n = true := by rw [hhas, hdr, List.any_cons]; simp [e]
      refine ⟨⟨hlo, hah.symm, fun _ => ⟨hlt, e, ?_⟩, fun h => by rw [hT] at h; cases h⟩, by rw [hT, dif_pos hlt]; simp [e]⟩
      rw [hbe, hdr, List.filter_cons_of_neg (by rw [hc]; simp), filter_all fun x hx => by rw [← e]; exact hgt x hx]
    · have hne : ∀ e ∈ l.drop lo, ltB n e.1 = true := by
        intro e he
        rw [hdr, List.mem_cons] at he
        rcases he with rfl | he
        · exact hc
        · exact lt_trans _ _ _ hc (hgt e he)
      have hF : hasB l n = false := by rw [hhas, List.any_eq_false]; intro e he; simpa using (lt_ne (hne e he)).symm
      refine ⟨⟨hlo, hah.symm, fun h => (by rw [hF] at h; cases h), fun _ => by rw [hbe, filter_all hne]⟩, ?_⟩
      rw [hF, dif_pos hlt]; simpa using (lt_ne hc).symm
  · have hd0 : l.drop lo = [] := List.drop_eq_nil_of_le (by omega)
    have hF : hasB l n = false := by rw [hhas, hd0]; rfl
    refine ⟨⟨hlo, hah.symm, fun h => (by rw [hF] at h; cases h), fun _ => by rw [hbe, hd0]; rfl⟩, ?_⟩
    rw [hF, dif_neg hlt]
theorem sort_upto {l : List Ent} {n : List UInt8} {a b : Nat} (hs : sortP l) (hb : b < l.length) (hab : a ≤ b) (h : ltB l[b].1 n = true) : ltB (l[a]'(by omega)).1 n = true := by
  rcases Nat.lt_or_ge a b with h1 | h1
  · exact lt_trans _ _ _ (List.pairwise_iff_getElem.1 hs a b (by omega) hb h1) h
  · obtain rfl : a = b := by omega
    exact h
theorem find_srch {l : List Ent} {n : List UInt8} {lo : Nat} (h : SrchP l n lo) (hh : hasB l n = true) : ∃ hk : lo < l.length, numB l n = l[lo].2 := by
  obtain ⟨_, ht, hy, _⟩ := h
  obtain ⟨hk, e, _⟩ := hy hh
  refine ⟨hk, (find_at hk ?_ e).1⟩
  rw [ht, List.any_eq_false]
  intro x hx
  simpa using lt_ne (List.mem_filter.1 hx).2
/-- The document's way. -/
theorem without_eq {l : List Ent} (n : List UInt8) (hs : sortP l) : l.filter (fun e => e.1 != n) = withoutB l n := by
  induction l with
  | nil => rfl
  | cons e t ih =>
    obtain ⟨h1, h2⟩ := List.pairwise_cons.1 hs
    have ih := ih h2
    unfold withoutB aheadB behindB at *
    cases hc : ltB e.1 n
    · have ha : t.filter (fun x => ltB x.1 n) = [] := filter_none fun x hx => by
        rw [Bool.eq_false_iff]; intro hx2
        rw [lt_trans _ _ _ (h1 x hx) hx2] at hc; cases hc
      rw [ha] at ih
      rw [List.filter_cons_of_neg (p := fun x : Ent => ltB x.1 n) (by simp [hc]), ha]
      cases hd : ltB n e.1
      · have he : e.1 = n := lt_tri _ _ hc hd
        rw [List.filter_cons_of_neg (p := fun x : Ent => x.1 != n) (by simp [he]), List.filter_cons_of_neg (p := fun x : Ent => ltB n x.1) (by simp [hd]), ih]
      · rw [List.filter_cons_of_pos (p := fun x : Ent => x.1 != n) (by simpa using (lt_ne hd).symm), List.filter_cons_of_pos (p := fun x : Ent => ltB n x.1) hd, ih]; rfl
    · rw [List.filter_cons_of_pos (p := fun x : Ent => x.1 != n) (by simpa using lt_ne hc), List.filter_cons_of_pos (p := fun x : Ent => ltB x.1 n) hc, List.filter_cons_of_neg (p := fun x : Ent => ltB n x.1) (by simp [lt_asym hc]), ih]; rfl
def insB (n : List UInt8) (i : Int) : List Ent → List Ent
  | [] => [(n, i)]
  | e :: r => if ltB n e.1 = true then (n, i) :: e :: r else e :: insB n i r
theorem with_sort {l : List Ent} (n : List UInt8) (i : Int) (hs : sortP l) : sortP (withB l n i) := by
  unfold withB sortP
  rw [List.pairwise_append, List.pairwise_cons]
  refine ⟨List.Pairwise.sublist List.filter_sublist hs, ⟨fun x hx => (List.mem_filter.1 hx).2, List.Pairwise.sublist List.filter_sublist hs⟩, fun a ha b hb => ?_⟩
  have h1 := (List.mem_filter.1 ha).2
  rcases List.mem_cons.1 hb with rfl | hb
  · exact h1
  · exact lt_trans _ _ _ h1 (List.mem_filter.1 hb).2
theorem without_sort {l : List Ent} (n : List UInt8) (hs : sortP l) : sortP (withoutB l n) := by
  unfold withoutB sortP
  rw [List.pairwise_append]
  refine ⟨List.Pairwise.sublist List.filter_sublist hs, List.Pairwise.sublist List.filter_sublist hs, fun a ha b hb => ?_⟩
  exact lt_trans _ _ _ (List.mem_filter.1 ha).2 (List.mem_filter.1 hb).2
theorem with_right {l : List Ent} {n : List UInt8} {i : Int} (hr : rightP l) (hg : goodE (n, i) = true) : rightP (withB l n i) := by
  refine ⟨fun e he => ?_, with_sort n i hr.2⟩
  unfold withB at he
  rcases List.mem_append.1 he with he | he
  · exact hr.1 e (List.mem_filter.1 he).1
  · rcases List.mem_cons.1 he with rfl | he
    · exact hg
    · exact hr.1 e (List.mem_filter.1 he).1
theorem without_right {l : List Ent} (n : List UInt8) (hr : rightP l) : rightP (withoutB l n) := by
  refine ⟨fun e he => ?_, without_sort n hr.2⟩
  unfold withoutB at he
  rcases List.mem_append.1 he with he | he <;> exact hr.1 e (List.mem_filter.1 he).1
theorem has_find (l : List Ent) (n : List UInt8) : hasB l n = (l.find? (fun e => e.1 == n)).isSome := by
  unfold hasB; rw [Bool.eq_iff_iff, List.any_eq_true, List.find?_isSome]
theorem parts_len (l : List Ent) (n : List UInt8) : (aheadB l n).length + (behindB l n).length ≤ l.length := by
  unfold aheadB behindB
  induction l with
  | nil => simp
  | cons e t ih =>
    cases h : ltB e.1 n
    · rw [List.filter_cons_of_neg (p := fun x : Ent => ltB x.1 n) (by simp [h])]
      have := List.length_filter_le (fun x : Ent => ltB n x.1) [e]
      simp only [List.filter_cons] at *
      split <;> simp at * <;> omega
    · rw [List.filter_cons_of_pos (p := fun x : Ent => ltB x.1 n) h, List.filter_cons_of_neg (p := fun x : Ent => ltB n x.1) (by simp [lt_asym h])]
      simp; omega
theorem without_len (l : List Ent) (n : List UInt8) : (withoutB l n).length ≤ l.length := by
  have := parts_len l n; unfold withoutB; rw [List.length_append]; omega
theorem with_len (l : List Ent) (n : List UInt8) (i : Int) : (withB l n i).length ≤ l.length + 1 := by
  have := parts_len l n; unfold withB; rw [List.length_append, List.length_cons]; omega
def shortP (b : Nat) (l : List Ent) : Prop := ∀ e ∈ l, e.1.length ≤ b
theorem without_short {l : List Ent} {b : Nat} (n : List UInt8) (h : shortP b l) : shortP b (withoutB l n) := by
  intro e he
  unfold withoutB at he
  rcases List.mem_append.1 he with he | he <;> exact h e (List.mem_filter.1 he).1
theorem with_short {l : List Ent} {b : Nat} {n : List UInt8} (i : Int) (h : shortP b l) (hn : n.length ≤ b) : shortP b (withB l n i) := by
  intro e he
  unfold withB at he
  rcases List.mem_append.1 he with he | he
  · exact h e (List.mem_filter.1 he).1
  · rcases List.mem_cons.1 he with rfl | he
    · exact hn
    · exact h e (List.mem_filter.1 he).1
theorem may_len {n : List UInt8} (h : mayB n = true) : n.length ≤ 255 := by
  simp [mayB] at h; exact h.1.1.2
/-- An inode: its fields, its entries' slice as it lies in its cell, and what that slice reads as. -/
structure Nd where
  ino : Int
  kind : Int
  links : Int
  data : List UInt8
  parent : Int
  ev : Value
  ents : List Ent
abbrev Key : Type := Int × Int × Int × List UInt8 × Int × List Ent
instance keyDec1 : DecidableEq (List Ent) := inferInstance
instance keyDec2 : DecidableEq (Int × List Ent) := instDecidableEqProd
instance keyDec3 : DecidableEq (List UInt8 × Int × List Ent) := instDecidableEqProd
instance keyDec4 : DecidableEq (Int × List UInt8 × Int × List Ent) := instDecidableEqProd
instance keyDec5 : DecidableEq (Int × Int × List UInt8 × Int × List Ent) := instDecidableEqProd
instance keyDec : DecidableEq Key := instDecidableEqProd
def Nd.key (x : Nd) : Key := (x.ino, x.kind, x.links, x.data, x.parent, x.ents)
def oneB (a b : Nd) : Bool := decide (a.key = b.key)
def onesB (a b : List Nd) : Bool := decide (a.map Nd.key = b.map Nd.key)
theorem oneB_iff (a b : Nd) : oneB a b = true ↔ a.key = b.key := by simp [oneB]
theorem oneB_no1 {a b : Nd} (h : (a.ino == b.ino) = false) : oneB a b = false := by
  rw [Bool.eq_false_iff]; intro e; rw [oneB_iff] at e; simp [Nd.key] at e; simp at h; exact h e.1
theorem oneB_no2 {a b : Nd} (h : (a.kind == b.kind) = false) : oneB a b = false := by
  rw [Bool.eq_false_iff]; intro e; rw [oneB_iff] at e; simp [Nd.key] at e; simp at h; exact h e.2.1
theorem oneB_no3 {a b : Nd} (h : (a.links == b.links) = false) : oneB a b = false := by
  rw [Bool.eq_false_iff]; intro e; rw [oneB_iff] at e; simp [Nd.key] at e; simp at h; exact h e.2.2.1
theorem oneB_no4 {a b : Nd} (h : (a.data == b.data) = false) : oneB a b = false := by
  rw [Bool.eq_false_iff]; intro e; rw [oneB_iff] at e; simp [Nd.key] at e; simp at h; exact h e.2.2.2.1
theorem oneB_no5 {a b : Nd} (h : (a.parent == b.parent) = false) : oneB a b = false := by
  rw [Bool.eq_false_iff]; intro e; rw [oneB_iff] at e; simp [Nd.key] at e; simp at h; exact h e.2.2.2.2.1
theorem oneB_ents {a b : Nd} (h1 : (a.ino == b.ino) = true) (h2 : (a.kind == b.kind) = true) (h3 : (a.links == b.links) = true) (h4 : (a.data == b.data) = true) (h5 : (a.parent == b.parent) = true) : oneB a b = decide (a.ents = b.ents) := by
  simp only [beq_iff_eq] at h1 h2 h3 h4 h5
  simp [oneB, Nd.key, *]
theorem onesB_len {a b : List Nd} (h : a.length ≠ b.length) : onesB a b = false := by
  rw [Bool.eq_false_iff]; intro e
  simp only [onesB, decide_eq_true_eq] at e
  have := congrArg List.length e
  simp at this; exact h this
theorem onesB_no {a b : List Nd} {k : Nat} (ha : k < a.length) (hb : k < b.length) (h : oneB a[k] b[k] = false) : onesB a b = false := by
  rw [Bool.eq_false_iff]; intro e
  simp only [onesB, decide_eq_true_eq] at e
  have h1 : (a.map Nd.key)[k]? = (b.map Nd.key)[k]? := by rw [e]
  simp [ha, hb] at h1
  simp [oneB, h1] at h
theorem onesB_next {a b : List Nd} {k : Nat} (ha : k < a.length) (hb : k < b.length) (ht : (a.take k).map Nd.key = (b.take k).map Nd.key) (h : oneB a[k] b[k] = true) : (a.take (k + 1)).map Nd.key = (b.take (k + 1)).map Nd.key := by
  rw [List.take_succ_eq_append_getElem ha, List.take_succ_eq_append_getElem hb, List.map_append, List.map_append, ht]
  rw [oneB_iff] at h
  simp [h]
theorem onesB_end {a b : List Nd} (hl : a.length = b.length) (ht : (a.take a.length).map Nd.key = (b.take a.length).map Nd.key) : onesB a b = true := by
  rw [List.take_length, hl, List.take_length] at ht
  exact decide_eq_true ht
abbrev riseP (l : List Nd) : Prop := l.Pairwise (fun a b => a.ino < b.ino)
def riseN (l : List Nd) : Bool := decide (riseP l)
theorem riseN_iff (l : List Nd) : riseN l = true ↔ riseP l := by simp [riseN]
theorem rise_next {l : List Nd} {k : Nat} (h : k < l.length) (hr : riseP (l.take k)) (hs : ∀ j (hj : j < l.length), j + 1 = k → l[j].ino < l[k].ino) : riseP (l.take (k + 1)) := by
  rw [List.take_succ_eq_append_getElem h]
  refine List.pairwise_append.2 ⟨hr, List.pairwise_singleton _ _, fun a ha b hb => ?_⟩
  obtain rfl := List.mem_singleton.1 hb
  obtain ⟨i, hi, rfl⟩ := List.getElem_of_mem ha
  have hik : i < k := by simp at hi; omega
  rw [List.getElem_take]
  rcases Nat.lt_or_ge (i + 1) k with hi1 | hi1
  · have h0 := hs (k - 1) (by omega) (by omega)
    have h1 := List.pairwise_iff_getElem.1 hr i (k - 1) (by simp; omega) (by simp; omega) (by omega)
    rw [List.getElem_take, List.getElem_take] at h1
    omega
  · exact hs i (by omega) (by omega)
theorem rise_no {l : List Nd} {k : Nat} (h : k + 1 < l.length) (hg : ¬ (l[k]'(by omega)).ino < l[k + 1].ino) : riseN l = false := by
  rw [Bool.eq_false_iff, Ne, riseN_iff]
  intro hr
  exact hg (List.pairwise_iff_getElem.1 hr k (k + 1) (by omega) h (by omega))
def aheadN (l : List Nd) (i : Int) : List Nd := l.filter (fun e => decide (e.ino < i))
def behindN (l : List Nd) (i : Int) : List Nd := l.filter (fun e => decide (i < e.ino))
def setN (l : List Nd) (x : Nd) : List Nd := aheadN l x.ino ++ x :: behindN l x.ino
def dropN (l : List Nd) (i : Int) : List Nd := aheadN l i ++ behindN l i
def hasN (l : List Nd) (i : Int) : Bool := l.any (fun e => e.ino == i)
def zeroN : Nd := ⟨0, 0, 0, [], 0, .slice none 0 0, []⟩
def getN (l : List Nd) (i : Int) : Nd := (l.find? (fun e => e.ino == i)).getD zeroN
theorem dropN_len (l : List Nd) (i : Int) : (dropN l i).length ≤ l.length := by
  unfold dropN aheadN behindN
  induction l with
  | nil => simp
  | cons e r ih =>
    simp only [List.filter_cons, List.length_append] at ih ⊢
    split <;> split <;> simp at * <;> omega
theorem setN_len (l : List Nd) (x : Nd) : (setN l x).length ≤ l.length + 1 := by
  have := dropN_len l x.ino
  simp [dropN, setN] at this ⊢; omega
theorem mem_setN {l : List Nd} {x e : Nd} (h : e ∈ setN l x) : e = x ∨ e ∈ l := by
  simp only [setN, aheadN, behindN, List.mem_append, List.mem_cons, List.mem_filter] at h
  rcases h with h | h | h
  · exact .inr h.1
  · exact .inl h
  · exact .inr h.1
theorem mem_dropN {l : List Nd} {i : Int} {e : Nd} (h : e ∈ dropN l i) : e ∈ l := by
  simp only [dropN, aheadN, behindN, List.mem_append, List.mem_filter] at h
  rcases h with h | h <;> exact h.1
/-- Where the search comes to. -/
def SrchN (l : List Nd) (i : Int) (lo : Nat) : Prop :=
  lo ≤ l.length ∧ l.take lo = aheadN l i ∧ (hasN l i = true → ∃ h : lo < l.length, l[lo].ino = i ∧ l.drop (lo + 1) = behindN l i) ∧ (hasN l i = false → l.drop lo = behindN l i)
theorem filtN_all {l : List Nd} {p : Nd → Bool} (h : ∀ e ∈ l, p e = true) : l.filter p = l := List.filter_eq_self.2 h
theorem filtN_none {l : List Nd} {p : Nd → Bool} (h : ∀ e ∈ l, p e = false) : l.filter p = [] := by
  rw [List.filter_eq_nil_iff]; intro e he; rw [h e he]; simp
theorem srchN_end {l : List Nd} {n : Int} {lo : Nat} (hs : riseP l) (hlo : lo ≤ l.length) (h1 : ∀ t (ht : t < l.length), t < lo → l[t].ino < n) (h2 : ∀ t (ht : t < l.length), lo ≤ t → n ≤ l[t].ino) :
    SrchN l n lo ∧ hasN l n = (if h : lo < l.length then l[lo].ino == n else false) := by
  have hl : l = l.take lo ++ l.drop lo := (List.take_append_drop _ _).symm
  have ha : ∀ e ∈ l.take lo, e.ino < n := by
    intro e he
    obtain ⟨t, ht, rfl⟩ := List.getElem_of_mem he
    rw [List.getElem_take]; exact h1 t (by simp at ht; omega) (by simp at ht; omega)
  have hd : ∀ e ∈ l.drop lo, n ≤ e.ino := by
    intro e he
    obtain ⟨t, ht, rfl⟩ := List.getElem_of_mem he
    rw [List.getElem_drop]; exact h2 (lo + t) (by simp at ht; omega) (by omega)
  have hah : aheadN l n = l.take lo := by
    unfold aheadN; conv => lhs; rw [hl]
    rw [List.filter_append, filtN_all fun e he => decide_eq_true (ha e he), filtN_none fun e he => decide_eq_false (by have := hd e he; omega), List.append_nil]
  have hbt : (l.take lo).filter (fun e => decide (n < e.ino)) = [] := filtN_none fun e he => decide_eq_false (by have := ha e he; omega)
  have hbe : behindN l n = (l.drop lo).filter (fun e => decide (n < e.ino)) := by
    unfold behindN; conv => lhs; rw [hl]
    rw [List.filter_append, hbt, List.nil_append]
  have hat : (l.take lo).any (fun e => e.ino == n) = false := by
    rw [List.any_eq_false]; intro e he; have := ha e he; simp; omega
  have hhas : hasN l n = (l.drop lo).any (fun e => e.ino == n) := by
    unfold hasN; conv => lhs; rw [hl]
    rw [List.any_append, hat, Bool.false_or]
  by_cases hlt : lo < l.length
  · have hdr : l.drop lo = l[lo] :: l.drop (lo + 1) := List.drop_eq_getElem_cons hlt
    have hsd : riseP (l.drop lo) := List.Pairwise.sublist (List.drop_sublist _ _) hs
    rw [hdr] at hsd
    have hgt := (List.pairwise_cons.1 hsd).1
    have hlo2 := h2 lo hlt (Nat.le_refl _)
    by_cases e : l[lo].ino = n
    · have hT : hasN l n = true := by rw [hhas, hdr, List.any_cons]; simp [e]
      refine ⟨⟨hlo, hah.symm, fun _ => ⟨hlt, e, ?_⟩, fun h => by rw [hT] at h; cases h⟩, by rw [hT, dif_pos hlt]; simp [e]⟩
      rw [hbe, hdr, List.filter_cons_of_neg (by simp; omega), filtN_all fun x hx => decide_eq_true (by have := hgt x hx; omega)]
    · have hne : ∀ e ∈ l.drop lo, n < e.ino := by
        intro e he
        rw [hdr, List.mem_cons] at he
        rcases he with rfl | he
        · omega
        · have := hgt e he; omega
      have hF : hasN l n = false := by rw [hhas, List.any_eq_false]; intro e he; have := hne e he; simp; omega
      refine ⟨⟨hlo, hah.symm, fun h => (by rw [hF] at h; cases h), fun _ => by rw [hbe, filtN_all fun e he => decide_eq_true (hne e he)]⟩, ?_⟩
      rw [hF, dif_pos hlt]; simp [e]
  · have hd0 : l.drop lo = [] := List.drop_eq_nil_of_le (by omega)
    have hF : hasN l n = false := by rw [hhas, hd0]; rfl
    refine ⟨⟨hlo, hah.symm, fun h => (by rw [hF] at h; cases h), fun _ => by rw [hbe, hd0]; rfl⟩, ?_⟩
    rw [hF, dif_neg hlt]
theorem rise_upto {l : List Nd} {a b : Nat} (hs : riseP l) (hb : b < l.length) (hab : a ≤ b) : (l[a]'(by omega)).ino ≤ l[b].ino := by
  rcases Nat.lt_or_ge a b with h1 | h1
  · exact Int.le_of_lt (List.pairwise_iff_getElem.1 hs a b (by omega) hb h1)
  · obtain rfl : a = b := by omega
    exact Int.le_refl _
theorem getN_at {l : List Nd} {n : Int} {k : Nat} (h : k < l.length) (hb : (l.take k).any (fun e => e.ino == n) = false) (hk : l[k].ino = n) : getN l n = l[k] ∧ hasN l n = true := by
  have hl : l = l.take k ++ l[k] :: l.drop (k + 1) := by rw [← List.drop_eq_getElem_cons, List.take_append_drop]
  have hf : (l.take k).find? (fun e => e.ino == n) = none := by
    rw [List.find?_eq_none]; intro e he
    exact (List.any_eq_false.1 hb) e he
  constructor
  · unfold getN
    have e1 : l.find? (fun e => e.ino == n) = some l[k] := by
      have e2 : (l.take k ++ l[k] :: l.drop (k + 1)).find? (fun e => e.ino == n) = some l[k] := by rw [List.find?_append, hf, List.find?_cons_of_pos (by simp [hk])]; rfl
      rwa [← hl] at e2
    rw [e1]; rfl
  · unfold hasN; rw [List.any_eq_true]; exact ⟨_, List.getElem_mem h, by simp [hk]⟩
theorem getN_none {l : List Nd} {n : Int} (hb : hasN l n = false) : getN l n = zeroN := by
  have hf : l.find? (fun e => e.ino == n) = none := by
    rw [List.find?_eq_none]; intro e he
    exact (List.any_eq_false.1 hb) e he
  unfold getN; rw [hf]; rfl
theorem anyN_next {l : List Nd} {n : Int} {k : Nat} (h : k < l.length) (hb : (l.take k).any (fun e => e.ino == n) = false) (hk : (l[k].ino == n) = false) : (l.take (k + 1)).any (fun e => e.ino == n) = false := by
  rw [List.take_succ_eq_append_getElem h, List.any_append, hb]; simp [hk]
theorem getN_srch {l : List Nd} {n : Int} {lo : Nat} (h : SrchN l n lo) (hh : hasN l n = true) : ∃ hk : lo < l.length, getN l n = l[lo] := by
  obtain ⟨_, ht, hy, _⟩ := h
  obtain ⟨hk, e, _⟩ := hy hh
  refine ⟨hk, (getN_at hk ?_ e).1⟩
  rw [ht, List.any_eq_false]
  intro x hx
  have := of_decide_eq_true (List.mem_filter.1 hx).2
  simp; omega
/-- The document's ways. -/
theorem dropN_eq (l : List Nd) (n : Int) (hs : riseP l) : l.filter (fun e => e.ino != n) = dropN l n := by
  induction l with
  | nil => rfl
  | cons e t ih =>
    obtain ⟨h1, h2⟩ := List.pairwise_cons.1 hs
    have ih := ih h2
    unfold dropN aheadN behindN at *
    by_cases hc : e.ino < n
    · rw [List.filter_cons_of_pos (p := fun x : Nd => x.ino != n) (by simp; omega), List.filter_cons_of_pos (p := fun x : Nd => decide (x.ino < n)) (by simpa using hc), List.filter_cons_of_neg (p := fun x : Nd => decide (n < x.ino)) (by simp; omega), ih]; rfl
    · have ha : t.filter (fun x => decide (x.ino < n)) = [] := filtN_none fun x hx => decide_eq_false (by have := h1 x hx; omega)
      rw [ha] at ih
      rw [List.filter_cons_of_neg (p := fun x : Nd => decide (x.ino < n)) (by simpa using hc), ha]
      by_cases he : e.ino = n
      · rw [List.filter_cons_of_neg (p := fun x : Nd => x.ino != n) (by simp [he]), List.filter_cons_of_neg (p := fun x : Nd => decide (n < x.ino)) (by simp [he]), ih]
      · rw [List.filter_cons_of_pos (p := fun x : Nd => x.ino != n) (by simpa using he), List.filter_cons_of_pos (p := fun x : Nd => decide (n < x.ino)) (by simp; omega), ih]; rfl
theorem drop_rise {l : List Nd} (n : Int) (hs : riseP l) : riseP (dropN l n) := by
  rw [← dropN_eq l n hs]; exact hs.filter _
theorem set_rise {l : List Nd} (x : Nd) (hs : riseP l) : riseP (setN l x) := by
  unfold setN aheadN behindN
  refine List.pairwise_append.2 ⟨hs.filter _, List.pairwise_cons.2 ⟨fun b hb => of_decide_eq_true (List.mem_filter.1 hb).2, hs.filter _⟩, fun a ha b hb => ?_⟩
  have h1 := of_decide_eq_true (List.mem_filter.1 ha).2
  rcases List.mem_cons.1 hb with rfl | hb
  · exact h1
  · have h2 := of_decide_eq_true (List.mem_filter.1 hb).2; omega
/-- The rounds of the document's Set, over what is left of the table: what has come of the first k, and whether x was put. -/
def insN (x : Nd) : List Nd → List Nd × Bool
  | [] => ([], false)
  | e :: r => if x.ino < e.ino then (x :: e :: r, true) else (e :: (insN x r).1, (insN x r).2)
theorem set_perm {l : List Nd} (x : Nd) (hs : riseP l) : (setN l x).Perm (l.filter (fun e => e.ino != x.ino) ++ [x]) := by
  rw [dropN_eq l x.ino hs]
  unfold setN dropN
  rw [List.append_assoc]
  exact (List.Perm.append_left _ (List.perm_append_comm (l₁ := [x]) (l₂ := behindN l x.ino)))
def fewX (x : Nd) : Bool := decide (x.data.length ≤ 5000) && decide (x.ents.length ≤ 40) && x.ents.all (fun e => decide (e.1.length ≤ 300))
def fewN (l : List Nd) : Bool := decide (l.length ≤ 40) && l.all fewX
theorem fewN_small {l : List Nd} (h : fewN l = true) : l.length ≤ 40 ∧ ∀ x ∈ l, x.data.length ≤ 5000 := by
  unfold fewN at h
  rw [Bool.and_eq_true, decide_eq_true_eq, List.all_eq_true] at h
  refine ⟨h.1, fun x hx => ?_⟩
  have := h.2 x hx
  unfold fewX at this
  simp only [Bool.and_eq_true, decide_eq_true_eq] at this
  exact this.1.1
def costN (x : Nd) : Nat := if x.kind = 1 then x.data.length else 0
def bytesN : List Nd → Nat
  | [] => 0
  | x :: l => costN x + bytesN l
theorem bytesN_append (a b : List Nd) : bytesN (a ++ b) = bytesN a + bytesN b := by
  induction a with
  | nil => simp [bytesN]
  | cons x l ih => simp [bytesN, ih]; omega
theorem bytesN_next {l : List Nd} {k : Nat} (h : k < l.length) : bytesN (l.take (k + 1)) = bytesN (l.take k) + costN l[k] := by
  rw [List.take_succ_eq_append_getElem h, bytesN_append]; simp [bytesN]
theorem bytesN_take (l : List Nd) (k : Nat) : bytesN (l.take k) ≤ bytesN l := by
  have := bytesN_append (l.take k) (l.drop k)
  rw [List.take_append_drop] at this; omega
theorem bytesN_end (l : List Nd) : bytesN (l.take l.length) = bytesN l := by rw [List.take_length]
theorem costN_le (x : Nd) : costN x ≤ x.data.length := by unfold costN; split <;> omega
theorem costN_no {x : Nd} (h : ¬ x.kind = 1) : costN x = 0 := by simp [costN, h]
theorem costN_yes {x : Nd} (h : x.kind = 1) : costN x = x.data.length := by simp [costN, h]
theorem bytesN_few {l : List Nd} {m : Nat} (h : ∀ x ∈ l, x.data.length ≤ m) : bytesN l ≤ l.length * m := by
  induction l with
  | nil => simp [bytesN]
  | cons x l ih =>
    have h1 := ih fun y hy => h y (by simp [hy])
    have h2 := h x (by simp)
    have h3 := costN_le x
    simp only [bytesN, List.length_cons, Nat.add_mul]; omega
def fitsB (mi mb : Int) (l : List Nd) (i b : Int) : Bool := decide ((l.length : Int) + i ≤ mi) && decide ((bytesN l : Int) + b ≤ mb)
theorem filt_not {l : List Nd} {n : Int} (h : hasN l n = false) : l.filter (fun e => e.ino != n) = l := by
  refine filtN_all fun e he => ?_
  have := List.any_eq_false.1 h e he
  simpa [bne] using this
theorem allT_next {α : Type} {l : List α} {p : α → Bool} {k : Nat} (h : k < l.length) (ht : (l.take k).all p = true) (hp : p l[k] = true) : (l.take (k + 1)).all p = true := by
  rw [List.take_succ_eq_append_getElem h, List.all_append, ht]; simp [hp]
theorem all_no {α : Type} {l : List α} {p : α → Bool} {k : Nat} (h : k < l.length) (hp : p l[k] = false) : l.all p = false := by
  rw [List.all_eq_false]; exact ⟨_, List.getElem_mem h, by simp [hp]⟩
theorem allT_end {α : Type} {l : List α} {p : α → Bool} (ht : (l.take l.length).all p = true) : l.all p = true := by rwa [List.take_length] at ht
/-- Rule 1. -/
def limB (mi mb nx : Int) : Bool := decide (1 ≤ mi) && decide (mi ≤ 1073741824) && decide (0 ≤ mb) && decide (mb ≤ 1073741824) && decide (nx ≤ 1099511627776)
def inoB (nx : Int) (x : Nd) : Bool := decide (1 ≤ x.ino) && decide (x.ino < nx)
def rootB (l : List Nd) : Bool := riseN l && hasN l 1 && ((getN l 1).kind == 2)
def firstB (mi mb nx : Int) (l : List Nd) : Bool := limB mi mb nx && l.all (inoB nx) && rootB l
/-- Rule 2. -/
def secondX (x : Nd) : Bool :=
  if x.kind = 2 then x.data.isEmpty && rightB x.ents
  else if x.kind = 1 then x.ents.isEmpty && decide (x.parent = 0)
  else if x.kind = 3 then x.ents.isEmpty && decide (x.parent = 0) && decide (1 ≤ x.data.length) && decide (x.data.length ≤ 4095) && x.data.all (fun c => c != 0)
  else false
def secondB (l : List Nd) : Bool := l.all secondX
/-- Rule 3. -/
def thirdX (l : List Nd) (x : Nd) : Bool := x.ents.all (fun e => hasN l e.2)
def thirdB (l : List Nd) : Bool := l.all (thirdX l)
/-- Who names whom: each entry, with the number of its directory. -/
def pairsN (l : List Nd) : List (Int × Ent) := l.flatMap (fun x => x.ents.map (fun e => (x.ino, e)))
def cntP (ps : List (Int × Ent)) (i : Int) : Nat := ps.countP (fun p => p.2.2 == i)
def lastP (ps : List (Int × Ent)) (i : Int) : Int := ((ps.filter (fun p => p.2.2 == i)).getLast?.map (·.1)).getD 0
def namesN (l : List Nd) (i : Int) : Nat := cntP (pairsN l) i
def inN (l : List Nd) (i : Int) : Int := lastP (pairsN l) i
theorem cntP_next (ps : List (Int × Ent)) (p : Int × Ent) (i : Int) : cntP (ps ++ [p]) i = if p.2.2 == i then cntP ps i + 1 else cntP ps i := by
  simp only [cntP, List.countP_append, List.countP_cons, List.countP_nil]
  split <;> omega
theorem lastP_next (ps : List (Int × Ent)) (p : Int × Ent) (i : Int) : lastP (ps ++ [p]) i = if p.2.2 == i then p.1 else lastP ps i := by
  simp only [lastP, List.filter_append]
  cases h : (p.2.2 == i) <;> simp [h]
def pairsT (l : List Nd) (k m : Nat) : List (Int × Ent) := pairsN (l.take k) ++ ((l[k]?.map (fun x => (x.ents.take m).map (fun e => (x.ino, e)))).getD [])
theorem pairsT_zero (l : List Nd) (k : Nat) : pairsT l k 0 = pairsN (l.take k) := by
  unfold pairsT
  cases l[k]? <;> simp
theorem pairsT_next {l : List Nd} {k m : Nat} (h : k < l.length) (hm : m < l[k].ents.length) : pairsT l k (m + 1) = pairsT l k m ++ [(l[k].ino, l[k].ents[m])] := by
  unfold pairsT
  rw [List.getElem?_eq_getElem h, Option.map_some, Option.map_some, Option.getD_some, Option.getD_some, List.take_succ_eq_append_getElem hm, List.map_append, ← List.append_assoc]
  rfl
theorem pairsT_end {l : List Nd} {k : Nat} (h : k < l.length) : pairsT l k l[k].ents.length = pairsN (l.take (k + 1)) := by
  unfold pairsT
  rw [List.getElem?_eq_getElem h, Option.map_some, Option.getD_some, List.take_length, List.take_succ_eq_append_getElem h]
  unfold pairsN
  rw [List.flatMap_append]
  simp only [List.flatMap_cons, List.flatMap_nil, List.append_nil]
theorem pairs_all (l : List Nd) : pairsN (l.take l.length) = pairsN l := by rw [List.take_length]
theorem pairs_len (l : List Nd) {m : Nat} (h : ∀ x ∈ l, x.ents.length ≤ m) : (pairsN l).length ≤ l.length * m := by
  unfold pairsN
  induction l with
  | nil => simp
  | cons x r ih =>
    have h1 := ih fun y hy => h y (by simp [hy])
    have h2 := h x (by simp)
    simp only [List.flatMap_cons, List.length_append, List.length_map, List.length_cons, Nat.add_mul]; omega
theorem cntP_le (ps : List (Int × Ent)) (i : Int) : cntP ps i ≤ ps.length := List.countP_le_length
theorem pairsT_len (l : List Nd) (k m : Nat) : (pairsT l k m).length ≤ (pairsN l).length := by
  rcases Nat.lt_or_ge k l.length with h | h
  · have e : pairsN l = pairsN (l.take k) ++ (l[k].ents.map (fun e => (l[k].ino, e)) ++ pairsN (l.drop (k + 1))) := by
      have e0 : l = l.take k ++ l[k] :: l.drop (k + 1) := by rw [← List.drop_eq_getElem_cons h, List.take_append_drop]
      conv => lhs; rw [e0]
      unfold pairsN
      rw [List.flatMap_append, List.flatMap_cons]
    unfold pairsT
    rw [List.getElem?_eq_getElem h, Option.map_some, Option.getD_some, e]
    simp only [List.length_append, List.length_map, List.length_take]
    omega
  · unfold pairsT
    rw [List.getElem?_eq_none h, List.take_of_length_le h]
    simp
/-- Rule 4. -/
def fourthX (l : List Nd) (x : Nd) : Bool :=
  decide (x.links = (namesN l x.ino : Int)) &&
    (if x.ino = 1 then decide (namesN l x.ino = 0) && decide (x.parent = 1)
     else decide (1 ≤ namesN l x.ino) && (if x.kind = 2 then decide (namesN l x.ino = 1) && decide (x.parent = inN l x.ino) else true))
def fourthB (l : List Nd) : Bool := l.all (fourthX l)
/-- Rule 5: rounds. -/
def seeB (s : List Int) : List Ent → List Int
  | [] => s
  | e :: r => seeB (if s.contains e.2 then s else s ++ [e.2]) r
theorem see_snoc (s : List Int) (es : List Ent) (e : Ent) : seeB s (es ++ [e]) = if (seeB s es).contains e.2 then seeB s es else seeB s es ++ [e.2] := by
  induction es generalizing s with
  | nil => rfl
  | cons a r ih => exact ih _
theorem see_next {es : List Ent} {m : Nat} (s : List Int) (h : m < es.length) : seeB s (es.take (m + 1)) = if (seeB s (es.take m)).contains es[m].2 then seeB s (es.take m) else seeB s (es.take m) ++ [es[m].2] := by
  rw [List.take_succ_eq_append_getElem h, see_snoc]
def bfsN (l : List Nd) : Nat → List Int
  | 0 => [1]
  | k + 1 => match (bfsN l k)[k]? with
    | some i => seeB (bfsN l k) (getN l i).ents
    | none => bfsN l k
theorem bfs_next {l : List Nd} {k : Nat} (h : k < (bfsN l k).length) : bfsN l (k + 1) = seeB (bfsN l k) (getN l (bfsN l k)[k]).ents := by
  show (match (bfsN l k)[k]? with | some i => _ | none => _) = _
  rw [List.getElem?_eq_getElem h]
theorem bfs_stop {l : List Nd} {k : Nat} (h : (bfsN l k).length ≤ k) : ∀ j, bfsN l (k + j) = bfsN l k := by
  intro j
  induction j with
  | zero => rfl
  | succ j ih =>
    have e : bfsN l (k + (j + 1)) = match (bfsN l (k + j))[k + j]? with | some i => seeB (bfsN l (k + j)) (getN l i).ents | none => bfsN l (k + j) := rfl
    rw [e, ih, List.getElem?_eq_none (by omega)]
def fifthB (l : List Nd) : Bool := decide ((bfsN l (l.length + 1)).length = l.length)
theorem see_has (s : List Int) (es : List Ent) (P : Int → Prop) (hs : ∀ i ∈ s, P i) (he : ∀ e ∈ es, P e.2) : ∀ i ∈ seeB s es, P i := by
  induction es generalizing s with
  | nil => exact hs
  | cons e r ih =>
    refine ih _ ?_ (fun x hx => he x (by simp [hx]))
    intro i hi
    split at hi
    · exact hs i hi
    · rcases List.mem_append.1 hi with h | h
      · exact hs i h
      · rw [List.mem_singleton.1 h]; exact he e (by simp)
theorem see_nodup (s : List Int) (es : List Ent) (hs : s.Nodup) : (seeB s es).Nodup := by
  induction es generalizing s with
  | nil => exact hs
  | cons e r ih =>
    refine ih _ ?_
    split
    · exact hs
    · rename_i h
      rw [List.contains_eq_mem, decide_eq_true_eq] at h
      refine List.nodup_append.2 ⟨hs, by simp, ?_⟩
      intro a ha b hb e2
      rw [List.mem_singleton.1 hb] at e2
      exact h (e2 ▸ ha)
theorem see_len (s : List Int) (es : List Ent) : s.length ≤ (seeB s es).length := by
  induction es generalizing s with
  | nil => exact Nat.le_refl _
  | cons e r ih =>
    refine Nat.le_trans ?_ (ih _)
    split <;> simp
theorem see_prefix (s : List Int) (es : List Ent) : s <+: seeB s es := by
  induction es generalizing s with
  | nil => exact List.prefix_rfl
  | cons e r ih =>
    refine List.IsPrefix.trans ?_ (ih _)
    split
    · exact List.prefix_rfl
    · exact List.prefix_append _ _
theorem get_mem {l : List Nd} {i : Int} (h : hasN l i = true) : getN l i ∈ l ∧ (getN l i).ino = i := by
  unfold hasN at h
  unfold getN
  cases hf : l.find? (fun e => e.ino == i) with
  | none =>
    rw [List.find?_eq_none] at hf
    rw [List.any_eq_true] at h
    obtain ⟨x, hx, hx2⟩ := h
    exact absurd hx2 (by simpa using hf x hx)
  | some x => exact ⟨List.mem_of_find?_eq_some hf, by simpa using List.find?_some hf⟩
theorem get_ents_has {l : List Nd} (h3 : thirdB l = true) (i : Int) : ∀ e ∈ (getN l i).ents, hasN l e.2 = true := by
  intro e he
  cases hh : hasN l i
  · rw [getN_none hh] at he; cases he
  · have hm := (get_mem hh).1
    have := List.all_eq_true.1 h3 _ hm
    exact List.all_eq_true.1 this e he
theorem bfs_has {l : List Nd} (h3 : thirdB l = true) (h1 : hasN l 1 = true) : ∀ k, ∀ i ∈ bfsN l k, hasN l i = true := by
  intro k
  induction k with
  | zero => intro i hi; rw [List.mem_singleton.1 hi]; exact h1
  | succ k ih =>
    rcases Nat.lt_or_ge k (bfsN l k).length with h | h
    · rw [bfs_next h]
      exact see_has _ _ (fun i => hasN l i = true) ih (get_ents_has h3 _)
    · rw [show bfsN l (k + 1) = bfsN l k from bfs_stop h 1]; exact ih
theorem bfs_nodup (l : List Nd) : ∀ k, (bfsN l k).Nodup := by
  intro k
  induction k with
  | zero => simp [bfsN]
  | succ k ih =>
    rcases Nat.lt_or_ge k (bfsN l k).length with h | h
    · rw [bfs_next h]; exact see_nodup _ _ ih
    · rw [show bfsN l (k + 1) = bfsN l k from bfs_stop h 1]; exact ih
theorem has_inos {l : List Nd} {i : Int} (h : hasN l i = true) : i ∈ l.map (·.ino) := List.mem_map.2 ⟨_, (get_mem h).1, (get_mem h).2⟩
theorem len_sub {α : Type} [DecidableEq α] (s : List α) : ∀ (t : List α), s.Nodup → (∀ x ∈ s, x ∈ t) → s.length ≤ t.length := by
  induction s with
  | nil => intro t _ _; simp
  | cons a r ih =>
    intro t hs h
    obtain ⟨h1, h2⟩ := List.nodup_cons.1 hs
    have ha := h a (by simp)
    have := ih (t.erase a) h2 (fun x hx => (List.mem_erase_of_ne (fun e : x = a => h1 (by rw [← e]; exact hx))).2 (h x (by simp [hx])))
    rw [List.length_erase_of_mem ha] at this
    have := List.length_pos_of_mem ha
    simp; omega
theorem bfs_len {l : List Nd} (h3 : thirdB l = true) (h1 : hasN l 1 = true) (k : Nat) : (bfsN l k).length ≤ l.length := by
  have hsub : ∀ i ∈ bfsN l k, i ∈ l.map (·.ino) := fun i hi => has_inos (bfs_has h3 h1 k i hi)
  have := len_sub _ _ (bfs_nodup l k) hsub
  simpa using this
theorem bfs_end {l : List Nd} (h3 : thirdB l = true) (h1 : hasN l 1 = true) {k : Nat} (h : (bfsN l k).length ≤ k) (hk : k ≤ l.length + 1) : bfsN l (l.length + 1) = bfsN l k := by
  have := bfs_stop h (l.length + 1 - k)
  rwa [show k + (l.length + 1 - k) = l.length + 1 from by omega] at this
/-- All six. -/
def checkN (mi mb nx : Int) (l : List Nd) : Int :=
  if firstB mi mb nx l = false then 1 else if secondB l = false then 2 else if thirdB l = false then 3 else if fourthB l = false then 4 else if fifthB l = false then 5 else if fitsB mi mb l 0 0 = false then 6 else 0
def okB (mi mb nx : Int) (l : List Nd) : Bool := fewN l && decide (checkN mi mb nx l = 0)
theorem first_has {mi mb nx : Int} {l : List Nd} (h : firstB mi mb nx l = true) : hasN l 1 = true := by
  simp only [firstB, rootB, Bool.and_eq_true] at h; exact h.2.1.2
def underB (p n : List UInt8) : List UInt8 := if p = [47] then p ++ n else p ++ [47] ++ n
/-- The walk from an inode, by a path, so deep at most. -/
def belowN (l : List Nd) : Nat → Int → List UInt8 → List Ent
  | 0, _, _ => []
  | d + 1, i, p => if hasN l i = true then (p, i) :: (getN l i).ents.flatMap (fun e => belowN l d e.2 (underB p e.1)) else []
def listN (l : List Nd) : List Ent := belowN l (l.length + 1) 1 [47]
theorem below_no {l : List Nd} {d : Nat} {i : Int} {p : List UInt8} (h : hasN l i = false) : belowN l d i p = [] := by
  cases d with
  | zero => rfl
  | succ d => unfold belowN; rw [h]; rfl
theorem check_parts {mi mb nx : Int} {l : List Nd} (h : checkN mi mb nx l = 0) : firstB mi mb nx l = true ∧ secondB l = true ∧ thirdB l = true ∧ fourthB l = true ∧ fifthB l = true ∧ fitsB mi mb l 0 0 = true := by
  have h2 := h
  clear h
  unfold checkN at h2
  split at h2
  · omega
  split at h2
  · omega
  split at h2
  · omega
  split at h2
  · omega
  split at h2
  · omega
  split at h2
  · omega
  simp_all
theorem ok_check {mi mb nx : Int} {l : List Nd} (h : okB mi mb nx l = true) : checkN mi mb nx l = 0 := by
  unfold okB at h
  rw [Bool.and_eq_true, decide_eq_true_eq] at h
  exact h.2
theorem ok_parts {mi mb nx : Int} {l : List Nd} (h : okB mi mb nx l = true) : fewN l = true ∧ firstB mi mb nx l = true ∧ secondB l = true ∧ thirdB l = true ∧ fourthB l = true ∧ fifthB l = true ∧ fitsB mi mb l 0 0 = true := by
  refine ⟨?_, check_parts (ok_check h)⟩
  unfold okB at h
  rw [Bool.and_eq_true] at h
  exact h.1
def isDir (l : List Nd) (i : Int) : Bool := hasN l i && decide ((getN l i).kind = 2)
def kidsN (l : List Nd) (i : Int) : List Int := (getN l i).ents.map (·.2)
structure Tree (l : List Nd) : Prop where
  rise : riseP l
  root : hasN l 1 = true
  rootDir : (getN l 1).kind = 2
  files : ∀ x ∈ l, x.kind ≠ 2 → x.ents = []
  rights : ∀ x ∈ l, x.kind = 2 → rightB x.ents = true
  there : ∀ x ∈ l, ∀ e ∈ x.ents, hasN l e.2 = true
  noRoot : namesN l 1 = 0
  once : ∀ x ∈ l, x.kind = 2 → x.ino ≠ 1 → namesN l x.ino = 1
  parent : ∀ x ∈ l, x.kind = 2 → x.ino ≠ 1 → x.parent = inN l x.ino
  seen : (bfsN l (l.length + 1)).length = l.length
theorem getN_of {l : List Nd} (hr : riseP l) {x : Nd} (hx : x ∈ l) : getN l x.ino = x ∧ hasN l x.ino = true := by
  obtain ⟨i, hi, e⟩ := List.getElem_of_mem hx
  have := getN_at (n := x.ino) hi (by
    rw [List.any_eq_false]
    intro y hy
    obtain ⟨j, hj, rfl⟩ := List.getElem_of_mem hy
    have hji : j < i := by simp at hj; omega
    have := List.pairwise_iff_getElem.1 hr j i (by omega) hi hji
    rw [List.getElem_take, ← e]; simp; omega) (by rw [e])
  exact ⟨this.1.trans e, this.2⟩
theorem tree_c {mi mb nx : Int} {l : List Nd} (h : checkN mi mb nx l = 0) : Tree l := by
  obtain ⟨h1, h2, h3, h4, h5, _⟩ := check_parts h
  have hf := h1
  simp only [firstB, rootB, Bool.and_eq_true, beq_iff_eq] at hf
  have hr := (riseN_iff l).1 hf.2.1.1
  have h2' := fun x hx => List.all_eq_true.1 h2 x hx
  have h4' := fun x hx => List.all_eq_true.1 h4 x hx
  have hroot := get_mem hf.2.1.2
  refine ⟨hr, hf.2.1.2, hf.2.2, ?_, ?_, ?_, ?_, ?_, ?_, by simpa [fifthB] using h5⟩
  · intro x hx hk
    have := h2' x hx
    unfold secondX at this
    rw [if_neg hk] at this
    split at this
    · simp only [Bool.and_eq_true, List.isEmpty_iff] at this; exact this.1
    · split at this
      · simp only [Bool.and_eq_true, List.isEmpty_iff] at this; exact this.1.1.1.1
      · cases this
  · intro x hx hk
    have := h2' x hx
    unfold secondX at this
    rw [if_pos hk, Bool.and_eq_true] at this
    exact this.2
  · intro x hx e he
    exact List.all_eq_true.1 (List.all_eq_true.1 h3 x hx) e he
  · have := h4' _ hroot.1
    unfold fourthX at this
    rw [hroot.2, if_pos rfl] at this
    simp only [Bool.and_eq_true, decide_eq_true_eq] at this
    exact this.2.1
  · intro x hx hk hi
    have := h4' _ hx
    unfold fourthX at this
    rw [if_neg hi, if_pos hk] at this
    simp only [Bool.and_eq_true, decide_eq_true_eq] at this
    exact this.2.2.1
  · intro x hx hk hi
    have := h4' _ hx
    unfold fourthX at this
    rw [if_neg hi, if_pos hk] at this
    simp only [Bool.and_eq_true, decide_eq_true_eq] at this
    exact this.2.2.2
theorem tree_of {mi mb nx : Int} {l : List Nd} (h : okB mi mb nx l = true) : Tree l := tree_c (ok_check h)
def lvN (l : List Nd) : Nat → List Int → List Int
  | 0, L => L
  | d + 1, L => (lvN l d L).flatMap (kidsN l)
/-- All that is come to in so many levels. -/
def visN (l : List Nd) : Nat → List Int → List Int
  | 0, _ => []
  | d + 1, L => L ++ visN l d (L.flatMap (kidsN l))
theorem lv_in (l : List Nd) (d : Nat) (L : List Int) : lvN l (d + 1) L = lvN l d (L.flatMap (kidsN l)) := by
  induction d with
  | zero => rfl
  | succ d ih => show (lvN l (d + 1) L).flatMap _ = _; rw [ih]; rfl
theorem vis_out (l : List Nd) (d : Nat) : ∀ L, visN l (d + 1) L = L ++ (visN l d L).flatMap (kidsN l) := by
  induction d with
  | zero => intro L; simp [visN]
  | succ d ih =>
    intro L
    show L ++ visN l (d + 1) (L.flatMap (kidsN l)) = _
    rw [ih]
    show _ = L ++ (L ++ visN l d (L.flatMap (kidsN l))).flatMap (kidsN l)
    rw [List.flatMap_append]
theorem vis_lv (l : List Nd) (d : Nat) (L : List Int) : visN l (d + 1) L = visN l d L ++ lvN l d L := by
  induction d generalizing L with
  | zero => simp [visN, lvN]
  | succ d ih =>
    show L ++ visN l (d + 1) (L.flatMap (kidsN l)) = (L ++ visN l d (L.flatMap (kidsN l))) ++ _
    rw [ih, lv_in, List.append_assoc]
theorem kids_dir {l : List Nd} (t : Tree l) {i : Int} (h : kidsN l i ≠ []) : isDir l i = true := by
  unfold kidsN at h
  cases hh : hasN l i
  · rw [getN_none hh] at h; exact absurd rfl h
  · have hm := get_mem hh
    unfold isDir
    rw [hh, Bool.true_and, decide_eq_true_eq]
    refine Decidable.byContradiction fun hk => ?_
    rw [t.files _ hm.1 hk] at h
    exact h rfl
theorem sum_sub (f : Int → Nat) (s : List Int) : ∀ (t : List Int), s.Nodup → (∀ x ∈ s, x ∈ t) → (s.map f).sum ≤ (t.map f).sum := by
  induction s with
  | nil => intro t _ _; simp
  | cons a r ih =>
    intro t hs h
    obtain ⟨h1, h2⟩ := List.nodup_cons.1 hs
    have ha := h a (by simp)
    have h3 := ih (t.erase a) h2 (fun x hx => (List.mem_erase_of_ne (fun e : x = a => h1 (by rw [← e]; exact hx))).2 (h x (by simp [hx])))
    have h4 := ((List.perm_cons_erase ha).map f).sum_nat
    simp only [List.map_cons, List.sum_cons] at h4 ⊢
    omega
theorem sum_filter (f : Int → Nat) (s : List Int) (p : Int → Bool) (h : ∀ i ∈ s, p i = false → f i = 0) : (s.map f).sum = ((s.filter p).map f).sum := by
  induction s with
  | nil => rfl
  | cons a r ih =>
    have := ih fun i hi => h i (by simp [hi])
    rw [List.filter_cons]
    split
    · simp only [List.map_cons, List.sum_cons, this]
    · rename_i hp
      simp only [List.map_cons, List.sum_cons, this, h a (by simp) (by simpa using hp), Nat.zero_add]
theorem nodup_count {s : List Int} (p : Int → Bool) (h : ∀ j, p j = true → s.count j ≤ 1) : (s.filter p).Nodup := by
  rw [List.nodup_iff_count]
  intro a
  cases hp : p a
  · rw [List.count_eq_zero_of_not_mem (by simp [hp])]; omega
  · rw [List.count_filter hp]; exact h a hp
theorem dir_ino {l : List Nd} {i : Int} (h : isDir l i = true) : i ∈ l.map (·.ino) := by
  unfold isDir at h
  rw [Bool.and_eq_true] at h
  exact has_inos h.1
theorem kids_sum {l : List Nd} (t : Tree l) (f : List Ent → Nat) : ((l.map (·.ino)).map (fun i => f (getN l i).ents)).sum = (l.map (fun x => f x.ents)).sum := by
  rw [List.map_map]
  congr 1
  refine List.map_congr_left fun x hx => ?_
  show f (getN l x.ino).ents = _
  rw [(getN_of t.rise hx).1]
theorem names_sum (l : List Nd) (j : Int) : namesN l j = (l.map (fun x => (x.ents.map (·.2)).count j)).sum := by
  unfold namesN pairsN cntP
  induction l with
  | nil => rfl
  | cons x r ih =>
    rw [List.flatMap_cons, List.countP_append, ih, List.map_cons, List.sum_cons]
    congr 1
    rw [List.countP_map, List.count, List.countP_map]
    rfl
theorem count_flat (L : List Int) (g : Int → List Int) (j : Int) : (L.flatMap g).count j = (L.map (fun i => (g i).count j)).sum := by
  induction L with
  | nil => rfl
  | cons a r ih => rw [List.flatMap_cons, List.count_append, ih]; simp
theorem len_flat (L : List Int) (g : Int → List Int) : (L.flatMap g).length = (L.map (fun i => (g i).length)).sum := by
  induction L with
  | nil => rfl
  | cons a r ih => rw [List.flatMap_cons, List.length_append, ih]; simp
/-- Each directory is come to once at most. -/
theorem vis_once {l : List Nd} (t : Tree l) (d : Nat) : ∀ j, isDir l j = true → (visN l d [1]).count j ≤ 1 := by
  induction d with
  | zero => intro j _; simp [visN]
  | succ d ih =>
    intro j hj
    rw [vis_out, List.count_append, count_flat]
    have h1 : ((visN l d [1]).map (fun i => (kidsN l i).count j)).sum ≤ namesN l j := by
      rw [sum_filter _ _ (isDir l) (fun i _ hi => by
        have : kidsN l i = [] := Decidable.byContradiction fun h => by rw [kids_dir t h] at hi; cases hi
        rw [this]; rfl), names_sum, ← kids_sum t (fun es => (es.map (·.2)).count j)]
      refine sum_sub _ _ _ (nodup_count _ ih) (fun x hx => dir_ino (List.mem_filter.1 hx).2)
    by_cases e : j = 1
    · subst e
      rw [t.noRoot] at h1
      simp; omega
    · have hm : hasN l j = true := by unfold isDir at hj; rw [Bool.and_eq_true] at hj; exact hj.1
      have hg := get_mem hm
      have hk : (getN l j).kind = 2 := by unfold isDir at hj; rw [Bool.and_eq_true, decide_eq_true_eq] at hj; exact hj.2
      have h2 := t.once _ hg.1 hk (by rw [hg.2]; exact e)
      rw [hg.2] at h2
      rw [h2] at h1
      have : ([1] : List Int).count j = 0 := List.count_eq_zero_of_not_mem (by simpa using e)
      omega
def entsN (l : List Nd) : Nat := (l.map (fun x => x.ents.length)).sum
theorem vis_len {l : List Nd} (t : Tree l) (d : Nat) : (visN l d [1]).length ≤ 1 + entsN l := by
  cases d with
  | zero => simp [visN]
  | succ d =>
    rw [vis_out, List.length_append, len_flat]
    have h1 : ((visN l d [1]).map (fun i => (kidsN l i).length)).sum ≤ entsN l := by
      rw [sum_filter _ _ (isDir l) (fun i _ hi => by
        have : kidsN l i = [] := Decidable.byContradiction fun h => by rw [kids_dir t h] at hi; cases hi
        rw [this]; rfl)]
      unfold entsN
      rw [← kids_sum t (fun es => es.length)]
      have := sum_sub (fun i => (kidsN l i).length) _ _ (nodup_count _ (vis_once t d)) (fun x hx => dir_ino (List.mem_filter.1 hx).2)
      simpa [kidsN] using this
    simpa using h1
theorem vis_nil (l : List Nd) (d : Nat) : visN l d [] = [] := by
  induction d with
  | zero => rfl
  | succ d ih => show [] ++ visN l d ([].flatMap (kidsN l)) = []; simpa using ih
theorem vis_append (l : List Nd) (d : Nat) : ∀ A B, (visN l d (A ++ B)).Perm (visN l d A ++ visN l d B) := by
  induction d with
  | zero => intro A B; exact List.Perm.refl _
  | succ d ih =>
    intro A B
    show ((A ++ B) ++ visN l d ((A ++ B).flatMap (kidsN l))).Perm ((A ++ visN l d (A.flatMap (kidsN l))) ++ (B ++ visN l d (B.flatMap (kidsN l))))
    rw [List.flatMap_append]
    refine (List.Perm.append_left _ (ih _ _)).trans ?_
    rw [List.append_assoc, List.append_assoc]
    refine List.Perm.append_left _ ?_
    rw [← List.append_assoc, ← List.append_assoc]
    exact List.Perm.append_right _ List.perm_append_comm
theorem vis_flat (l : List Nd) (d : Nat) (A : List Int) : (visN l d A).Perm (A.flatMap (fun i => visN l d [i])) := by
  induction A with
  | nil => rw [vis_nil]; exact List.Perm.refl _
  | cons a r ih =>
    have := vis_append l d [a] r
    rw [List.flatMap_cons]
    exact this.trans (List.Perm.append_left _ ih)
/-- What the walk comes to are the levels, taken together. -/
theorem below_perm {l : List Nd} (h3 : ∀ x ∈ l, ∀ e ∈ x.ents, hasN l e.2 = true) (d : Nat) : ∀ i p, hasN l i = true → ((belowN l d i p).map (·.2)).Perm (visN l d [i]) := by
  induction d with
  | zero => intro i p _; exact List.Perm.refl _
  | succ d ih =>
    intro i p hi
    have e1 : belowN l (d + 1) i p = (p, i) :: (getN l i).ents.flatMap (fun e => belowN l d e.2 (underB p e.1)) := by
      show (if hasN l i = true then _ else _) = _
      rw [if_pos hi]
    rw [e1]
    show (i :: ((getN l i).ents.flatMap (fun e => belowN l d e.2 (underB p e.1))).map (·.2)).Perm ([i] ++ visN l d ([i].flatMap (kidsN l)))
    refine List.Perm.cons _ ?_
    have e2 : [i].flatMap (kidsN l) = (getN l i).ents.map (·.2) := by simp [kidsN]
    rw [e2]
    refine List.Perm.trans ?_ (vis_flat l d _).symm
    rw [List.map_flatMap, List.flatMap_map]
    have hm := h3 _ (get_mem hi).1
    revert hm
    induction (getN l i).ents with
    | nil => intro _; exact List.Perm.refl _
    | cons e r ih2 =>
      intro hm
      rw [List.flatMap_cons, List.flatMap_cons]
      exact List.Perm.append (ih e.2 _ (hm e (by simp))) (ih2 fun x hx => hm x (by simp [hx]))
theorem list_len {l : List Nd} (t : Tree l) (d : Nat) (p : List UInt8) : (belowN l d 1 p).length ≤ 1 + entsN l := by
  have := (below_perm t.there d 1 p t.root).length_eq
  rw [List.length_map] at this
  rw [this]
  exact vis_len t d
theorem lv_down {l : List Nd} {L : List Int} {d : Nat} (h : lvN l (d + 1) L ≠ []) : ∃ i ∈ lvN l d L, kidsN l i ≠ [] := by
  refine Decidable.byContradiction fun hn => h ?_
  show (lvN l d L).flatMap (kidsN l) = []
  rw [List.flatMap_eq_nil_iff]
  intro i hi
  exact Decidable.byContradiction fun hk => hn ⟨i, hi, hk⟩
theorem lv_shorter {l : List Nd} {L : List Int} {d : Nat} (h : lvN l (d + 1) L ≠ []) : lvN l d L ≠ [] := by
  obtain ⟨i, hi, _⟩ := lv_down h
  exact List.ne_nil_of_mem hi
theorem vis_dirs {l : List Nd} (t : Tree l) (L : List Int) (d : Nat) : lvN l d L ≠ [] → d ≤ ((visN l d L).filter (isDir l)).length := by
  induction d with
  | zero => intro _; exact Nat.zero_le _
  | succ d ih =>
    intro h
    obtain ⟨i, hi, hk⟩ := lv_down h
    have h1 := ih (lv_shorter h)
    rw [vis_lv, List.filter_append, List.length_append]
    have h2 : 0 < ((lvN l d L).filter (isDir l)).length := List.length_pos_of_mem (List.mem_filter.2 ⟨hi, kids_dir t hk⟩)
    omega
theorem lv_end {l : List Nd} (t : Tree l) (d : Nat) (h : l.length < d) : lvN l d [1] = [] := by
  refine Decidable.byContradiction fun hn => ?_
  have h1 := vis_dirs t [1] d hn
  have h2 := len_sub _ _ (nodup_count _ (vis_once t d)) (fun x hx => dir_ino (List.mem_filter.1 hx).2)
  rw [List.length_map] at h2
  omega
theorem vis_end {l : List Nd} (t : Tree l) (j : Nat) : visN l (l.length + 1 + j) [1] = visN l (l.length + 1) [1] := by
  induction j with
  | zero => rfl
  | succ j ih => rw [← Nat.add_assoc, vis_lv, ih, lv_end t _ (by omega), List.append_nil]
theorem lv_add (l : List Nd) (a b : Nat) (L : List Int) : lvN l (a + b) L = lvN l b (lvN l a L) := by
  induction b with
  | zero => rfl
  | succ b ih => show (lvN l (a + b) L).flatMap _ = _; rw [ih]; rfl
theorem bfs_lv {l : List Nd} (k : Nat) : ∀ i ∈ bfsN l k, ∃ m, i ∈ lvN l m [1] := by
  induction k with
  | zero => intro i hi; exact ⟨0, hi⟩
  | succ k ih =>
    rcases Nat.lt_or_ge k (bfsN l k).length with h | h
    · rw [bfs_next h]
      refine see_has _ _ (fun i => ∃ m, i ∈ lvN l m [1]) ih ?_
      intro e he
      obtain ⟨m, hm⟩ := ih _ (List.getElem_mem h)
      exact ⟨m + 1, List.mem_flatMap.2 ⟨_, hm, List.mem_map.2 ⟨e, he, rfl⟩⟩⟩
    · rw [show bfsN l (k + 1) = bfsN l k from bfs_stop h 1]; exact ih
theorem sub_eq {s t : List Int} (hs : s.Nodup) (h : ∀ x ∈ s, x ∈ t) (hl : t.length ≤ s.length) : ∀ x ∈ t, x ∈ s := by
  intro x hx
  refine Decidable.byContradiction fun hn => ?_
  have := len_sub s (t.erase x) hs (fun y hy => (List.mem_erase_of_ne (fun e : y = x => hn (by rw [← e]; exact hy))).2 (h y hy))
  rw [List.length_erase_of_mem hx] at this
  have := List.length_pos_of_mem hx
  omega
theorem on_level {l : List Nd} (t : Tree l) {i : Int} (h : hasN l i = true) : ∃ m, m ≤ l.length ∧ i ∈ lvN l m [1] := by
  have h3 : thirdB l = true := List.all_eq_true.2 fun x hx => List.all_eq_true.2 fun e he => t.there x hx e he
  have hin : i ∈ bfsN l (l.length + 1) := by
    refine sub_eq (bfs_nodup _ _) (fun z hz => has_inos (bfs_has h3 t.root _ z hz)) (by rw [t.seen]; simp) i (has_inos h)
  obtain ⟨m, hm⟩ := bfs_lv _ i hin
  rcases Nat.lt_or_ge l.length m with h | h
  · rw [lv_end t m h] at hm; cases hm
  · exact ⟨m, h, hm⟩
theorem lv_append (l : List Nd) (d : Nat) (A B : List Int) : lvN l d (A ++ B) = lvN l d A ++ lvN l d B := by
  induction d with
  | zero => rfl
  | succ d ih => show (lvN l d (A ++ B)).flatMap _ = _; rw [ih, List.flatMap_append]; rfl
theorem lv_perm {l : List Nd} {A B : List Int} (d : Nat) (h : A.Perm B) : (lvN l d A).Perm (lvN l d B) := by
  induction d with
  | zero => exact h
  | succ d ih => exact ih.flatMap_right _
theorem vis_add (l : List Nd) (a b : Nat) : ∀ L, visN l (a + b) L = visN l a L ++ visN l b (lvN l a L) := by
  induction a with
  | zero => intro L; rw [Nat.zero_add]; rfl
  | succ a ih =>
    intro L
    rw [show a + 1 + b = (a + b) + 1 from by omega]
    show L ++ visN l (a + b) (L.flatMap (kidsN l)) = (L ++ visN l a (L.flatMap (kidsN l))) ++ _
    rw [ih, List.append_assoc, lv_in]
theorem lv_end_any {l : List Nd} (t : Tree l) {i : Int} (h : hasN l i = true) (d : Nat) (hd : l.length < d) : lvN l d [i] = [] := by
  obtain ⟨m, _, hm⟩ := on_level t h
  have h1 := lv_perm (l := l) d (List.perm_cons_erase hm)
  rw [← lv_add, lv_end t _ (by omega)] at h1
  have h2 := h1.nil_eq
  rw [show i :: (lvN l m [1]).erase i = [i] ++ (lvN l m [1]).erase i from rfl, lv_append] at h2
  exact (List.append_eq_nil_iff.1 h2.symm).1
/-- Deeper than there are inodes it doesn't go. -/
theorem below_stop {l : List Nd} (d : Nat) : ∀ i p, lvN l d [i] = [] → belowN l (d + 1) i p = belowN l d i p := by
  induction d with
  | zero => intro i p h; cases h
  | succ d ih =>
    intro i p h
    rw [lv_in] at h
    have e2 : [i].flatMap (kidsN l) = kidsN l i := by simp
    rw [e2] at h
    have hk : ∀ e ∈ (getN l i).ents, lvN l d [e.2] = [] := by
      intro e he
      have hm : e.2 ∈ kidsN l i := List.mem_map.2 ⟨e, he, rfl⟩
      have h1 := lv_perm (l := l) d (List.perm_cons_erase hm)
      rw [h] at h1
      have h2 := h1.nil_eq
      rw [show e.2 :: (kidsN l i).erase e.2 = [e.2] ++ (kidsN l i).erase e.2 from rfl, lv_append] at h2
      exact (List.append_eq_nil_iff.1 h2.symm).1
    show (if hasN l i = true then _ else _) = (if hasN l i = true then _ else _)
    split
    · congr 1
      have hcongr : ∀ es : List Ent, (∀ e ∈ es, lvN l d [e.2] = []) → es.flatMap (fun e => belowN l (d + 1) e.2 (underB p e.1)) = es.flatMap (fun e => belowN l d e.2 (underB p e.1)) := by
        intro es
        induction es with
        | nil => intro _; rfl
        | cons e r ih2 =>
          intro he
          rw [List.flatMap_cons, List.flatMap_cons, ih e.2 _ (he e (by simp)), ih2 fun x hx => he x (by simp [hx])]
      exact hcongr _ hk
    · rfl
theorem below_more {l : List Nd} (t : Tree l) (i : Int) (p : List UInt8) (j : Nat) : belowN l (l.length + 1 + j) i p = belowN l (l.length + 1) i p := by
  cases h : hasN l i
  · rw [below_no h, below_no h]
  · induction j with
    | zero => rfl
    | succ j ih => rw [← Nat.add_assoc, below_stop _ _ _ (lv_end_any t h _ (by omega)), ih]
theorem lv_vis {l : List Nd} {m d : Nat} {L : List Int} (h : m < d) : ∀ i ∈ lvN l m L, i ∈ visN l d L := by
  intro i hi
  obtain ⟨j, rfl⟩ : ∃ j, d = m + (j + 1) := ⟨d - m - 1, by omega⟩
  rw [vis_add]
  exact List.mem_append.2 (.inr (List.mem_append.2 (.inl hi)))
def atomB (a : List UInt8) : List (List UInt8) := if a = [] then [] else [a]
/-- The names that are left to come, 'a' being what has come of the one at hand. -/
def namesA (a : List UInt8) : List UInt8 → List (List UInt8)
  | [] => atomB a
  | c :: r => if c = 47 then atomB a ++ namesA [] r else namesA (a ++ [c]) r
def namesB (l : List UInt8) : List (List UInt8) := namesA [] l
theorem atomB_nil : atomB [] = [] := rfl
theorem atomB_cons {a : List UInt8} (h : a ≠ []) : atomB a = [a] := if_neg h
theorem namesA_nil (a : List UInt8) : namesA a [] = atomB a := rfl
theorem namesA_slash (a r : List UInt8) : namesA a (47 :: r) = atomB a ++ namesA [] r := by simp [namesA]
theorem namesA_byte (a r : List UInt8) {c : UInt8} (h : c ≠ 47) : namesA a (c :: r) = namesA (a ++ [c]) r := by simp [namesA, h]
theorem namesA_run (x : List UInt8) : ∀ (a r : List UInt8), 47 ∉ x → namesA a (x ++ r) = namesA (a ++ x) r := by
  induction x with
  | nil => intro a r _; simp
  | cons c x ih =>
    intro a r h
    rw [List.cons_append, namesA_byte _ _ (fun e => h (by simp [e])), ih _ _ (fun e => h (by simp [e]))]
    simp
theorem namesB_found (x r : List UInt8) (h : 47 ∉ x) : namesB (x ++ 47 :: r) = atomB x ++ namesB r := by
  unfold namesB; rw [namesA_run _ _ _ h, List.nil_append, namesA_slash]
theorem namesB_none (x : List UInt8) (h : 47 ∉ x) : namesB x = atomB x := by
  have := namesA_run x [] [] h
  simpa [namesB, namesA_nil] using this
theorem namesB_nil : namesB [] = [] := rfl
theorem mem_atomB {a n : List UInt8} (h : n ∈ atomB a) : n = a ∧ a ≠ [] := by
  unfold atomB at h; split at h <;> simp_all
theorem namesA_good (l : List UInt8) : ∀ (a : List UInt8), 47 ∉ a → ∀ n ∈ namesA a l, 47 ∉ n ∧ n ≠ [] := by
  induction l with
  | nil => intro a ha n hn; obtain ⟨rfl, h⟩ := mem_atomB hn; exact ⟨ha, h⟩
  | cons c l ih =>
    intro a ha n hn
    by_cases hc : c = 47
    · subst hc
      rw [namesA_slash] at hn
      rcases List.mem_append.1 hn with h | h
      · obtain ⟨rfl, h⟩ := mem_atomB h; exact ⟨ha, h⟩
      · exact ih [] (by simp) n h
    · rw [namesA_byte _ _ hc] at hn
      exact ih _ (by simp [ha]; exact fun e => hc e.symm) n hn
def goodB (ns : List (List UInt8)) : Prop := ∀ n ∈ ns, 47 ∉ n ∧ n ≠ []
theorem namesB_good (l : List UInt8) : goodB (namesB l) := namesA_good l [] (by simp)
theorem atomB_len (a : List UInt8) : (atomB a).length ≤ a.length := by
  unfold atomB; split
  · simp
  · rename_i h; cases a with | nil => exact absurd rfl h | cons _ _ => simp
theorem namesA_count (l : List UInt8) : ∀ a, (namesA a l).length ≤ a.length + l.length := by
  induction l with
  | nil => intro a; exact atomB_len a
  | cons c l ih =>
    intro a
    by_cases hc : c = 47
    · subst hc
      rw [namesA_slash]
      have := ih []; have := atomB_len a
      simp at *; omega
    · rw [namesA_byte _ _ hc]
      have := ih (a ++ [c]); simp at *; omega
theorem namesB_count (l : List UInt8) : (namesB l).length ≤ l.length := by simpa [namesB] using namesA_count l []
theorem namesA_size (l : List UInt8) : ∀ a, ∀ n ∈ namesA a l, n.length ≤ a.length + l.length := by
  induction l with
  | nil => intro a n hn; obtain ⟨rfl, _⟩ := mem_atomB hn; simp
  | cons c l ih =>
    intro a n hn
    by_cases hc : c = 47
    · subst hc
      rw [namesA_slash] at hn
      rcases List.mem_append.1 hn with h | h
      · obtain ⟨rfl, _⟩ := mem_atomB h; simp
      · have := ih [] n h; simp at *; omega
    · rw [namesA_byte _ _ hc] at hn
      have := ih _ n hn; simp at *; omega
theorem namesB_size (l : List UInt8) : ∀ n ∈ namesB l, n.length ≤ l.length := by
  intro n hn; simpa using namesA_size l [] n hn
def absB (l : List UInt8) : Bool := l.head? == some 47
def endB (l : List UInt8) : Bool := l.getLast? == some 47
def slashB (l : List UInt8) : Bool := !(namesB l).isEmpty && endB l
/-- The text of names, a slash ahead of each. -/
def tailB : List (List UInt8) → List UInt8
  | [] => []
  | n :: r => 47 :: (n ++ tailB r)
def interB : List (List UInt8) → List UInt8
  | [] => []
  | n :: r => n ++ tailB r
def putB (a : Bool) (ns : List (List UInt8)) (s : Bool) : List UInt8 := (if a then [47] else []) ++ interB ns ++ (if s && !ns.isEmpty then [47] else [])
def joinB (ns : List (List UInt8)) : List UInt8 := 47 :: interB ns
theorem joinB_put (ns : List (List UInt8)) : putB true ns false = joinB ns := by simp [putB, joinB]
theorem tailB_append (a b : List (List UInt8)) : tailB (a ++ b) = tailB a ++ tailB b := by
  induction a with
  | nil => rfl
  | cons n a ih => simp [tailB, ih]
theorem joinB_tail {ns : List (List UInt8)} (h : ns ≠ []) : joinB ns = tailB ns := by
  cases ns with
  | nil => exact absurd rfl h
  | cons n r => rfl
theorem interB_snoc (ns : List (List UInt8)) (n : List UInt8) : interB (ns ++ [n]) = if ns.isEmpty then n else interB ns ++ 47 :: n := by
  cases ns with
  | nil => simp [interB, tailB]
  | cons m r => simp [interB, tailB_append, tailB]
theorem tailB_snoc (ns : List (List UInt8)) (n : List UInt8) : tailB (ns ++ [n]) = tailB ns ++ 47 :: n := by simp [tailB_append, tailB]
theorem interB_len_tail (ns : List (List UInt8)) : (interB ns).length ≤ (tailB ns).length := by
  cases ns <;> simp [interB, tailB]
theorem interB_take (ns : List (List UInt8)) (k : Nat) : (interB (ns.take k)).length ≤ (interB ns).length := by
  cases ns with
  | nil => simp
  | cons n r =>
    cases k with
    | zero => simp [interB]
    | succ k =>
      have : tailB r = tailB (r.take k) ++ tailB (r.drop k) := by rw [← tailB_append, List.take_append_drop]
      simp [interB, this]
theorem tailB_take (ns : List (List UInt8)) (k : Nat) : (tailB (ns.take k)).length ≤ (tailB ns).length := by
  have : tailB ns = tailB (ns.take k) ++ tailB (ns.drop k) := by rw [← tailB_append, List.take_append_drop]
  rw [this]; simp
theorem namesA_total (l : List UInt8) : ∀ a, (tailB (namesA a l)).length ≤ a.length + l.length + 1 := by
  have one : ∀ a : List UInt8, (tailB (atomB a)).length ≤ a.length + 1 := by
    intro a; unfold atomB; split
    · simp [tailB]
    · simp [tailB]
  induction l with
  | nil => intro a; simpa [namesA_nil] using one a
  | cons c l ih =>
    intro a
    by_cases hc : c = 47
    · subst hc
      rw [namesA_slash, tailB_append, List.length_append]
      have := ih []; have := one a
      simp at *; omega
    · rw [namesA_byte _ _ hc]
      have := ih (a ++ [c]); simp at *; omega
theorem namesB_total (l : List UInt8) : (interB (namesB l)).length ≤ l.length + 1 := by
  have h1 := interB_len_tail (namesB l); have h2 := namesA_total l []
  simp [namesB] at *; omega
theorem mayB_good {n : List UInt8} (h : mayB n = true) : 47 ∉ n ∧ n ≠ [] := by
  simp [mayB] at h; exact ⟨h.1.2, h.1.1.1.1.1⟩
def longB (l : List UInt8) : Bool := decide (4095 < l.length) || (namesB l).any fun n => decide (255 < n.length)
def plainB (l : List UInt8) : Option (List (List UInt8)) := if (namesB l).all mayB && joinB (namesB l) == l then some (namesB l) else none
theorem plainB_bad {l : List UInt8} {k : Nat} (h : k < (namesB l).length) (hm : mayB (namesB l)[k] = false) : plainB l = none := by
  unfold plainB
  rw [if_neg]
  intro e
  simp only [Bool.and_eq_true, List.all_eq_true] at e
  rw [e.1 _ (List.getElem_mem h)] at hm
  exact absurd hm (by simp)
theorem plainB_ok {l : List UInt8} (h : ∀ n ∈ namesB l, mayB n = true) : plainB l = if joinB (namesB l) == l then some (namesB l) else none := by
  unfold plainB
  rw [List.all_eq_true.2 h, Bool.true_and]
theorem plainB_yes {l : List UInt8} {ns : List (List UInt8)} (h : plainB l = some ns) : joinB ns = l ∧ goodB ns ∧ namesB l = ns := by
  unfold plainB at h
  split at h
  · rename_i hc
    simp only [Bool.and_eq_true, beq_iff_eq] at hc
    cases h
    exact ⟨hc.2, namesB_good _, rfl⟩
  · cases h
theorem right_pair {es : List Ent} (h : rightP es) : es.Pairwise (fun a b => a.1 ≠ b.1) := h.2.imp fun h => lt_ne h
theorem ents_pair {l : List Nd} (t : Tree l) (i : Int) : (getN l i).ents.Pairwise (fun a b => a.1 ≠ b.1) := by
  cases hh : hasN l i
  · rw [getN_none hh]; exact List.Pairwise.nil
  · have hm := (get_mem hh).1
    by_cases hk : (getN l i).kind = 2
    · exact right_pair ((rightB_iff _).1 (t.rights _ hm hk))
    · rw [t.files _ hm hk]; exact List.Pairwise.nil
theorem inos_nodup {l : List Nd} (t : Tree l) : (l.map (·.ino)).Nodup := by
  rw [List.nodup_iff_pairwise_ne, List.pairwise_map]
  exact t.rise.imp fun h => by omega
theorem kids_len0 {l : List Nd} (t : Tree l) {i : Int} (h : isDir l i = false) : (kidsN l i).length = 0 := by
  have : kidsN l i = [] := Decidable.byContradiction fun hk => by rw [kids_dir t hk] at h; cases h
  rw [this]; rfl
theorem list_exact {l : List Nd} (t : Tree l) : (listN l).length = 1 + entsN l := by
  refine Nat.le_antisymm (list_len t _ _) ?_
  have h0 := (below_perm t.there (l.length + 1) 1 [47] t.root).length_eq
  rw [List.length_map] at h0
  unfold listN
  rw [h0, ← vis_end t 1, show l.length + 1 + 1 = (l.length + 1) + 1 from rfl, vis_out, List.length_append, len_flat]
  have h1 : entsN l ≤ ((visN l (l.length + 1) [1]).map (fun i => (kidsN l i).length)).sum := by
    unfold entsN
    rw [← kids_sum t (fun es => es.length), sum_filter _ (visN l (l.length + 1) [1]) (isDir l) (fun i _ hi => kids_len0 t hi)]
    have e : ((l.map (·.ino)).map (fun i => (getN l i).ents.length)).sum = (((l.map (·.ino)).filter (isDir l)).map (fun i => (kidsN l i).length)).sum := by
      rw [← sum_filter (fun i => (kidsN l i).length) (l.map (·.ino)) (isDir l) (fun i _ hi => kids_len0 t hi)]
      simp [kidsN]
    rw [e]
    refine sum_sub _ _ _ ((inos_nodup t).filter _) ?_
    intro i hi
    have hd := (List.mem_filter.1 hi).2
    have hh : hasN l i = true := by unfold isDir at hd; rw [Bool.and_eq_true] at hd; exact hd.1
    obtain ⟨m, hm, hl⟩ := on_level t hh
    exact List.mem_filter.2 ⟨lv_vis (by omega) i hl, hd⟩
  simp only [List.length_singleton]; omega
theorem few_ents {l : List Nd} (h : fewN l = true) : entsN l ≤ 1600 ∧ l.length ≤ 40 ∧ ∀ x ∈ l, shortP 300 x.ents := by
  have hsm := fewN_small h
  unfold fewN at h
  rw [Bool.and_eq_true, List.all_eq_true] at h
  have hx : ∀ x ∈ l, x.ents.length ≤ 40 ∧ shortP 300 x.ents := by
    intro x hx
    have := h.2 x hx
    unfold fewX at this
    simp only [Bool.and_eq_true, decide_eq_true_eq, List.all_eq_true] at this
    exact ⟨this.1.2, this.2⟩
  refine ⟨?_, hsm.1, fun x hm => (hx x hm).2⟩
  have key : ∀ r : List Nd, (∀ x ∈ r, x.ents.length ≤ 40) → entsN r ≤ r.length * 40 := by
    intro r
    induction r with
    | nil => intro _; simp [entsN]
    | cons x r ih =>
      intro hr
      have h1 := ih fun y hy => hr y (by simp [hy])
      have h2 := hr x (by simp)
      simp only [entsN, List.map_cons, List.sum_cons, List.length_cons] at h1 ⊢
      omega
  have h1 := key l fun x hm => (hx x hm).1
  have h2 := hsm.1
  omega
/-- A place: the directory, the name, the inode. -/
structure Sp where
  dir : Int
  name : List UInt8
  ino : Int
deriving DecidableEq
abbrev zeroS : Sp := ⟨0, [], 0⟩
abbrev rootS : Sp := ⟨0, [], 1⟩
def stepS (l : List Nd) (i : Int) (n : List UInt8) : Sp := ⟨(getN l i).ino, n, numB (getN l i).ents n⟩
def atN (l : List Nd) : Sp → List (List UInt8) → Sp × Int
  | s, [] => (s, 0)
  | s, n :: r => if s.ino = 0 then (zeroS, 1) else if (getN l s.ino).kind = 2 then atN l (stepS l s.ino n) r else (zeroS, 3)
def atP (l : List Nd) (p : List UInt8) : Sp × Int := match plainB p with
  | none => (zeroS, 9)
  | some ns => atN l rootS ns
def getP (l : List Nd) (p : List UInt8) : Nd × Int := if (atP l p).2 ≠ 0 then (zeroN, (atP l p).2) else if (atP l p).1.ino = 0 then (zeroN, 1) else (getN l (atP l p).1.ino, 0)
theorem at_gone {l : List Nd} {s : Sp} {n : List UInt8} {r : List (List UInt8)} (h : s.ino = 0) : atN l s (n :: r) = (zeroS, 1) := by rw [atN, if_pos h]
theorem at_file {l : List Nd} {s : Sp} {n : List UInt8} {r : List (List UInt8)} (h : s.ino ≠ 0) (hk : (getN l s.ino).kind ≠ 2) : atN l s (n :: r) = (zeroS, 3) := by rw [atN, if_neg h, if_neg hk]
theorem at_on {l : List Nd} {s : Sp} {n : List UInt8} {r : List (List UInt8)} (h : s.ino ≠ 0) (hk : (getN l s.ino).kind = 2) : atN l s (n :: r) = atN l (stepS l s.ino n) r := by rw [atN, if_neg h, if_pos hk]
theorem num_mem {es : List Ent} (h : es.Pairwise (fun a b => a.1 ≠ b.1)) {e : Ent} (he : e ∈ es) : numB es e.1 = e.2 ∧ hasB es e.1 = true := by
  obtain ⟨k, hk, rfl⟩ := List.getElem_of_mem he
  refine find_at hk ?_ rfl
  rw [List.any_eq_false]
  intro x hx
  obtain ⟨j, hj, rfl⟩ := List.getElem_of_mem hx
  have hjk : j < k := by simp at hj; omega
  rw [List.getElem_take]
  simpa using List.pairwise_iff_getElem.1 h j k (by omega) hk hjk
theorem ent_pos {l : List Nd} (t : Tree l) {i : Int} : ∀ e ∈ (getN l i).ents, 0 < e.2 := by
  intro e he
  cases hh : hasN l i
  · rw [getN_none hh] at he; cases he
  · have hm := (get_mem hh).1
    have hk : (getN l i).kind = 2 := Decidable.byContradiction fun hk => by rw [t.files _ hm hk] at he; cases he
    have := ((rightB_iff _).1 (t.rights _ hm hk)).1 e he
    unfold goodE at this
    rw [Bool.and_eq_true, decide_eq_true_eq] at this
    exact this.2
theorem ent_dir {l : List Nd} (t : Tree l) {i : Int} {e : Ent} (he : e ∈ (getN l i).ents) : (getN l i).kind = 2 ∧ hasN l i = true := by
  have : isDir l i = true := kids_dir t (by
    unfold kidsN
    intro h
    have h2 := List.map_eq_nil_iff.1 h
    rw [h2] at he; cases he)
  unfold isDir at this
  rw [Bool.and_eq_true, decide_eq_true_eq] at this
  exact ⟨this.2, this.1⟩
structure Calm (l : List Nd) : Prop where
  rise : riseP l
  right : ∀ x ∈ l, rightB x.ents = true
  size : ∀ x ∈ l, x.ents.length ≤ 1000 ∧ x.data.length ≤ 5000 ∧ shortP 300 x.ents
  len : l.length ≤ 1000
theorem calm_of {mi mb nx : Int} {l : List Nd} (h : okB mi mb nx l = true) : Calm l := by
  have t := tree_of h
  have hf := (ok_parts h).1
  have hl := (few_ents hf).2.1
  refine ⟨t.rise, fun x hx => ?_, fun x hx => ?_, by omega⟩
  · by_cases hk : x.kind = 2
    · exact t.rights x hx hk
    · rw [t.files x hx hk]; rfl
  · unfold fewN at hf
    rw [Bool.and_eq_true, List.all_eq_true] at hf
    have := hf.2 x hx
    unfold fewX at this
    simp only [Bool.and_eq_true, decide_eq_true_eq, List.all_eq_true] at this
    exact ⟨by omega, this.1.1, this.2⟩
/-- A sound table of calm sizes: what the walks ask. -/
structure OkS (mi mb nx : Int) (l : List Nd) : Prop where
  check : checkN mi mb nx l = 0
  calm : Calm l
theorem ok_s {mi mb nx : Int} {l : List Nd} (h : okB mi mb nx l = true) : OkS mi mb nx l := ⟨ok_check h, calm_of h⟩
theorem calm_get {l : List Nd} (h : Calm l) (i : Int) : rightB (getN l i).ents = true ∧ (getN l i).ents.length ≤ 1000 ∧ (getN l i).data.length ≤ 5000 ∧ shortP 300 (getN l i).ents := by
  cases hh : hasN l i
  · rw [getN_none hh]; exact ⟨rfl, Nat.zero_le _, Nat.zero_le _, fun _ h => (nomatch h)⟩
  · have hm := (get_mem hh).1
    exact ⟨h.right _ hm, h.size _ hm⟩
theorem calm_ents {l : List Nd} (h : Calm l) (i : Int) : sortP (getN l i).ents ∧ (getN l i).ents.length ≤ 1000 ∧ shortP 100000000 (getN l i).ents :=
  ⟨((rightB_iff _).1 (calm_get h i).1).2, (calm_get h i).2.1, fun e he => Nat.le_trans ((calm_get h i).2.2.2 e he) (by decide)⟩
end Go.Proofs.YtkdmfeikikmiiaaGreat
