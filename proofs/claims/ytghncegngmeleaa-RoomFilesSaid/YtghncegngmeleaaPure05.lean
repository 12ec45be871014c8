/- Tables' inodes as lists: rising ones, looked for, put in and dropped. No program's function. -/
import Derived.Test.YtghncegngmeleaaPure04
namespace Go.Proofs.Ytghncegngmeleaa

/-- An inode: its fields, its entries' slice as it lies in its cell, and what that slice reads as. -/
structure Nd where
  ino : Int
  kind : Int
  links : Int
  data : List UInt8
  parent : Int
  ev : Value
  ents : List Ent

abbrev Key : Type := Int × Int × Int × List UInt8 × Int × List Ent
instance keyDec1 : DecidableEq (List Ent) := inferInstance
instance keyDec2 : DecidableEq (Int × List Ent) := instDecidableEqProd
instance keyDec3 : DecidableEq (List UInt8 × Int × List Ent) := instDecidableEqProd
instance keyDec4 : DecidableEq (Int × List UInt8 × Int × List Ent) := instDecidableEqProd
instance keyDec5 : DecidableEq (Int × Int × List UInt8 × Int × List Ent) := instDecidableEqProd
instance keyDec : DecidableEq Key := instDecidableEqProd
def Nd.key (x : Nd) : Key := (x.ino, x.kind, x.links, x.data, x.parent, x.ents)
def oneB (a b : Nd) : Bool := decide (a.key = b.key)
def onesB (a b : List Nd) : Bool := decide (a.map Nd.key = b.map Nd.key)
theorem oneB_refl (a : Nd) : oneB a a = true := decide_eq_true rfl
theorem onesB_refl (a : List Nd) : onesB a a = true := decide_eq_true rfl
theorem oneB_iff (a b : Nd) : oneB a b = true ↔ a.key = b.key := by simp [oneB]
theorem key_ext (a b : Nd) (h1 : a.ino = b.ino) (h2 : a.kind = b.kind) (h3 : a.links = b.links) (h4 : a.data = b.data) (h5 : a.parent = b.parent) (h6 : a.ents = b.ents) : oneB a b = true := by
  rw [oneB_iff]; simp [Nd.key, *]
theorem oneB_no1 {a b : Nd} (h : (a.ino == b.ino) = false) : oneB a b = false := by
  rw [Bool.eq_false_iff]; intro e; rw [oneB_iff] at e; simp [Nd.key] at e; simp at h; exact h e.1
theorem oneB_no2 {a b : Nd} (h : (a.kind == b.kind) = false) : oneB a b = false := by
  rw [Bool.eq_false_iff]; intro e; rw [oneB_iff] at e; simp [Nd.key] at e; simp at h; exact h e.2.1
theorem oneB_no3 {a b : Nd} (h : (a.links == b.links) = false) : oneB a b = false := by
  rw [Bool.eq_false_iff]; intro e; rw [oneB_iff] at e; simp [Nd.key] at e; simp at h; exact h e.2.2.1
theorem oneB_no4 {a b : Nd} (h : (a.data == b.data) = false) : oneB a b = false := by
  rw [Bool.eq_false_iff]; intro e; rw [oneB_iff] at e; simp [Nd.key] at e; simp at h; exact h e.2.2.2.1
theorem oneB_no5 {a b : Nd} (h : (a.parent == b.parent) = false) : oneB a b = false := by
  rw [Bool.eq_false_iff]; intro e; rw [oneB_iff] at e; simp [Nd.key] at e; simp at h; exact h e.2.2.2.2.1
theorem oneB_ents {a b : Nd} (h1 : (a.ino == b.ino) = true) (h2 : (a.kind == b.kind) = true) (h3 : (a.links == b.links) = true) (h4 : (a.data == b.data) = true) (h5 : (a.parent == b.parent) = true) : oneB a b = decide (a.ents = b.ents) := by
  simp only [beq_iff_eq] at h1 h2 h3 h4 h5
  simp [oneB, Nd.key, *]
theorem onesB_len {a b : List Nd} (h : a.length ≠ b.length) : onesB a b = false := by
  rw [Bool.eq_false_iff]; intro e
  simp only [onesB, decide_eq_true_eq] at e
  have := congrArg List.length e
  simp at this; exact h this
theorem onesB_no {a b : List Nd} {k : Nat} (ha : k < a.length) (hb : k < b.length) (h : oneB a[k] b[k] = false) : onesB a b = false := by
  rw [Bool.eq_false_iff]; intro e
  simp only [onesB, decide_eq_true_eq] at e
  have h1 : (a.map Nd.key)[k]? = (b.map Nd.key)[k]? := by rw [e]
  simp [ha, hb] at h1
  simp [oneB, h1] at h
theorem onesB_next {a b : List Nd} {k : Nat} (ha : k < a.length) (hb : k < b.length) (ht : (a.take k).map Nd.key = (b.take k).map Nd.key) (h : oneB a[k] b[k] = true) : (a.take (k + 1)).map Nd.key = (b.take (k + 1)).map Nd.key := by
  rw [List.take_succ_eq_append_getElem ha, List.take_succ_eq_append_getElem hb, List.map_append, List.map_append, ht]
  rw [oneB_iff] at h
  simp [h]
theorem onesB_end {a b : List Nd} (hl : a.length = b.length) (ht : (a.take a.length).map Nd.key = (b.take a.length).map Nd.key) : onesB a b = true := by
  rw [List.take_length, hl, List.take_length] at ht
  exact decide_eq_true ht

abbrev riseP (l : List Nd) : Prop := l.Pairwise (fun a b => a.ino < b.ino)
def riseN (l : List Nd) : Bool := decide (riseP l)
theorem riseN_iff (l : List Nd) : riseN l = true ↔ riseP l := by simp [riseN]
theorem rise_next {l : List Nd} {k : Nat} (h : k < l.length) (hr : riseP (l.take k)) (hs : ∀ j (hj : j < l.length), j + 1 = k → l[j].ino < l[k].ino) : riseP (l.take (k + 1)) := by
  rw [List.take_succ_eq_append_getElem h]
  refine List.pairwise_append.2 ⟨hr, List.pairwise_singleton _ _, fun a ha b hb => ?_⟩
  obtain rfl := List.mem_singleton.1 hb
  obtain ⟨i, hi, rfl⟩ := List.getElem_of_mem ha
  have hik : i < k := by simp at hi; omega
  rw [List.getElem_take]
  rcases Nat.lt_or_ge (i + 1) k with hi1 | hi1
  · have h0 := hs (k - 1) (by omega) (by omega)
    have h1 := List.pairwise_iff_getElem.1 hr i (k - 1) (by simp; omega) (by simp; omega) (by omega)
    rw [List.getElem_take, List.getElem_take] at h1
    omega
  · exact hs i (by omega) (by omega)
theorem rise_no {l : List Nd} {k : Nat} (h : k + 1 < l.length) (hg : ¬ (l[k]'(by omega)).ino < l[k + 1].ino) : riseN l = false := by
  rw [Bool.eq_false_iff, Ne, riseN_iff]
  intro hr
  exact hg (List.pairwise_iff_getElem.1 hr k (k + 1) (by omega) h (by omega))
theorem rise_end {l : List Nd} (h : riseP (l.take l.length)) : riseN l = true := by
  rw [List.take_length] at h; exact (riseN_iff l).2 h

def aheadN (l : List Nd) (i : Int) : List Nd := l.filter (fun e => decide (e.ino < i))
def behindN (l : List Nd) (i : Int) : List Nd := l.filter (fun e => decide (i < e.ino))
def setN (l : List Nd) (x : Nd) : List Nd := aheadN l x.ino ++ x :: behindN l x.ino
def dropN (l : List Nd) (i : Int) : List Nd := aheadN l i ++ behindN l i
def hasN (l : List Nd) (i : Int) : Bool := l.any (fun e => e.ino == i)
def zeroN : Nd := ⟨0, 0, 0, [], 0, .slice none 0 0, []⟩
def getN (l : List Nd) (i : Int) : Nd := (l.find? (fun e => e.ino == i)).getD zeroN

theorem ahead_le (l : List Nd) (i : Int) : (aheadN l i).length ≤ l.length := List.length_filter_le _ _
theorem dropN_len (l : List Nd) (i : Int) : (dropN l i).length ≤ l.length := by
  unfold dropN aheadN behindN
  induction l with
  | nil => simp
  | cons e r ih =>
    simp only [List.filter_cons, List.length_append] at ih ⊢
    split <;> split <;> simp at * <;> omega
theorem setN_len (l : List Nd) (x : Nd) : (setN l x).length ≤ l.length + 1 := by
  have := dropN_len l x.ino
  simp [dropN, setN] at this ⊢; omega
theorem mem_setN {l : List Nd} {x e : Nd} (h : e ∈ setN l x) : e = x ∨ e ∈ l := by
  simp only [setN, aheadN, behindN, List.mem_append, List.mem_cons, List.mem_filter] at h
  rcases h with h | h | h
  · exact .inr h.1
  · exact .inl h
  · exact .inr h.1
theorem mem_dropN {l : List Nd} {i : Int} {e : Nd} (h : e ∈ dropN l i) : e ∈ l := by
  simp only [dropN, aheadN, behindN, List.mem_append, List.mem_filter] at h
  rcases h with h | h <;> exact h.1

/-- Where the search comes to. -/
def SrchN (l : List Nd) (i : Int) (lo : Nat) : Prop :=
  lo ≤ l.length ∧ l.take lo = aheadN l i ∧ (hasN l i = true → ∃ h : lo < l.length, l[lo].ino = i ∧ l.drop (lo + 1) = behindN l i) ∧ (hasN l i = false → l.drop lo = behindN l i)

theorem filtN_all {l : List Nd} {p : Nd → Bool} (h : ∀ e ∈ l, p e = true) : l.filter p = l := List.filter_eq_self.2 h
theorem filtN_none {l : List Nd} {p : Nd → Bool} (h : ∀ e ∈ l, p e = false) : l.filter p = [] := by
  rw [List.filter_eq_nil_iff]; intro e he; rw [h e he]; simp
theorem srchN_end {l : List Nd} {n : Int} {lo : Nat} (hs : riseP l) (hlo : lo ≤ l.length) (h1 : ∀ t (ht : t < l.length), t < lo → l[t].ino < n) (h2 : ∀ t (ht : t < l.length), lo ≤ t → n ≤ l[t].ino) :
    SrchN l n lo ∧ hasN l n = (if h : lo < l.length then l[lo].ino == n else false) := by
  have hl : l = l.take lo ++ l.drop lo := (List.take_append_drop _ _).symm
  have ha : ∀ e ∈ l.take lo, e.ino < n := by
    intro e he
    obtain ⟨t, ht, rfl⟩ := List.getElem_of_mem he
    rw [List.getElem_take]; exact h1 t (by simp at ht; omega) (by simp at ht; omega)
  have hd : ∀ e ∈ l.drop lo, n ≤ e.ino := by
    intro e he
    obtain ⟨t, ht, rfl⟩ := List.getElem_of_mem he
    rw [List.getElem_drop]; exact h2 (lo + t) (by simp at ht; omega) (by omega)
  have hah : aheadN l n = l.take lo := by
    unfold aheadN; conv => lhs; rw [hl]
    rw [List.filter_append, filtN_all fun e he => decide_eq_true (ha e he), filtN_none fun e he => decide_eq_false (by have := hd e he; omega), List.append_nil]
  have hbt : (l.take lo).filter (fun e => decide (n < e.ino)) = [] := filtN_none fun e he => decide_eq_false (by have := ha e he; omega)
  have hbe : behindN l n = (l.drop lo).filter (fun e => decide (n < e.ino)) := by
    unfold behindN; conv => lhs; rw [hl]
    rw [List.filter_append, hbt, List.nil_append]
  have hat : (l.take lo).any (fun e => e.ino == n) = false := by
    rw [List.any_eq_false]; intro e he; have := ha e he; simp; omega
  have hhas : hasN l n = (l.drop lo).any (fun e => e.ino == n) := by
    unfold hasN; conv => lhs; rw [hl]
    rw [List.any_append, hat, Bool.false_or]
  by_cases hlt : lo < l.length
  · have hdr : l.drop lo = l[lo] :: l.drop (lo + 1) := List.drop_eq_getElem_cons hlt
    have hsd : riseP (l.drop lo) := List.Pairwise.sublist (List.drop_sublist _ _) hs
    rw [hdr] at hsd
    have hgt := (List.pairwise_cons.1 hsd).1
    have hlo2 := h2 lo hlt (Nat.le_refl _)
    by_cases e : l[lo].ino = n
    · have hT : hasN l n = true := by rw [hhas, hdr, List.any_cons]; simp [e]
      refine ⟨⟨hlo, hah.symm, fun _ => ⟨hlt, e, ?_⟩, fun h => by rw [hT] at h; cases h⟩, by rw [hT, dif_pos hlt]; simp [e]⟩
      rw [hbe, hdr, List.filter_cons_of_neg (by simp; omega), filtN_all fun x hx => decide_eq_true (by have := hgt x hx; omega)]
    · have hne : ∀ e ∈ l.drop lo, n < e.ino := by
        intro e he
        rw [hdr, List.mem_cons] at he
        rcases he with rfl | he
        · omega
        · have := hgt e he; omega
      have hF : hasN l n = false := by rw [hhas, List.any_eq_false]; intro e he; have := hne e he; simp; omega
      refine ⟨⟨hlo, hah.symm, fun h => (by rw [hF] at h; cases h), fun _ => by rw [hbe, filtN_all fun e he => decide_eq_true (hne e he)]⟩, ?_⟩
      rw [hF, dif_pos hlt]; simp [e]
  · have hd0 : l.drop lo = [] := List.drop_eq_nil_of_le (by omega)
    have hF : hasN l n = false := by rw [hhas, hd0]; rfl
    refine ⟨⟨hlo, hah.symm, fun h => (by rw [hF] at h; cases h), fun _ => by rw [hbe, hd0]; rfl⟩, ?_⟩
    rw [hF, dif_neg hlt]
theorem rise_upto {l : List Nd} {a b : Nat} (hs : riseP l) (hb : b < l.length) (hab : a ≤ b) : (l[a]'(by omega)).ino ≤ l[b].ino := by
  rcases Nat.lt_or_ge a b with h1 | h1
  · exact Int.le_of_lt (List.pairwise_iff_getElem.1 hs a b (by omega) hb h1)
  · obtain rfl : a = b := by omega
    exact Int.le_refl _

theorem getN_at {l : List Nd} {n : Int} {k : Nat} (h : k < l.length) (hb : (l.take k).any (fun e => e.ino == n) = false) (hk : l[k].ino = n) : getN l n = l[k] ∧ hasN l n = true := by
  have hl : l = l.take k ++ l[k] :: l.drop (k + 1) := by rw [← List.drop_eq_getElem_cons, List.take_append_drop]
  have hf : (l.take k).find? (fun e => e.ino == n) = none := by
    rw [List.find?_eq_none]; intro e he
    exact (List.any_eq_false.1 hb) e he
  constructor
  · unfold getN
    have e1 : l.find? (fun e => e.ino == n) = some l[k] := by
      have e2 : (l.take k ++ l[k] :: l.drop (k + 1)).find? (fun e => e.ino == n) = some l[k] := by rw [List.find?_append, hf, List.find?_cons_of_pos (by simp [hk])]; rfl
      rwa [← hl] at e2
    rw [e1]; rfl
  · unfold hasN; rw [List.any_eq_true]; exact ⟨_, List.getElem_mem h, by simp [hk]⟩
theorem getN_none {l : List Nd} {n : Int} (hb : hasN l n = false) : getN l n = zeroN := by
  have hf : l.find? (fun e => e.ino == n) = none := by
    rw [List.find?_eq_none]; intro e he
    exact (List.any_eq_false.1 hb) e he
  unfold getN; rw [hf]; rfl
theorem anyN_next {l : List Nd} {n : Int} {k : Nat} (h : k < l.length) (hb : (l.take k).any (fun e => e.ino == n) = false) (hk : (l[k].ino == n) = false) : (l.take (k + 1)).any (fun e => e.ino == n) = false := by
  rw [List.take_succ_eq_append_getElem h, List.any_append, hb]; simp [hk]
theorem getN_srch {l : List Nd} {n : Int} {lo : Nat} (h : SrchN l n lo) (hh : hasN l n = true) : ∃ hk : lo < l.length, getN l n = l[lo] := by
  obtain ⟨_, ht, hy, _⟩ := h
  obtain ⟨hk, e, _⟩ := hy hh
  refine ⟨hk, (getN_at hk ?_ e).1⟩
  rw [ht, List.any_eq_false]
  intro x hx
  have := of_decide_eq_true (List.mem_filter.1 hx).2
  simp; omega

/-- The document's ways. -/
theorem dropN_eq (l : List Nd) (n : Int) (hs : riseP l) : l.filter (fun e => e.ino != n) = dropN l n := by
  induction l with
  | nil => rfl
  | cons e t ih =>
    obtain ⟨h1, h2⟩ := List.pairwise_cons.1 hs
    have ih := ih h2
    unfold dropN aheadN behindN at *
    by_cases hc : e.ino < n
    · rw [List.filter_cons_of_pos (p := fun x : Nd => x.ino != n) (by simp; omega), List.filter_cons_of_pos (p := fun x : Nd => decide (x.ino < n)) (by simpa using hc), List.filter_cons_of_neg (p := fun x : Nd => decide (n < x.ino)) (by simp; omega), ih]; rfl
    · have ha : t.filter (fun x => decide (x.ino < n)) = [] := filtN_none fun x hx => decide_eq_false (by have := h1 x hx; omega)
      rw [ha] at ih
      rw [List.filter_cons_of_neg (p := fun x : Nd => decide (x.ino < n)) (by simpa using hc), ha]
      by_cases he : e.ino = n
      · rw [List.filter_cons_of_neg (p := fun x : Nd => x.ino != n) (by simp [he]), List.filter_cons_of_neg (p := fun x : Nd => decide (n < x.ino)) (by simp [he]), ih]
      · rw [List.filter_cons_of_pos (p := fun x : Nd => x.ino != n) (by simpa using he), List.filter_cons_of_pos (p := fun x : Nd => decide (n < x.ino)) (by simp; omega), ih]; rfl
theorem drop_rise {l : List Nd} (n : Int) (hs : riseP l) : riseP (dropN l n) := by
  rw [← dropN_eq l n hs]; exact hs.filter _
theorem set_rise {l : List Nd} (x : Nd) (hs : riseP l) : riseP (setN l x) := by
  unfold setN aheadN behindN
  refine List.pairwise_append.2 ⟨hs.filter _, List.pairwise_cons.2 ⟨fun b hb => of_decide_eq_true (List.mem_filter.1 hb).2, hs.filter _⟩, fun a ha b hb => ?_⟩
  have h1 := of_decide_eq_true (List.mem_filter.1 ha).2
  rcases List.mem_cons.1 hb with rfl | hb
  · exact h1
  · have h2 := of_decide_eq_true (List.mem_filter.1 hb).2; omega

/-- The rounds of the document's Set, over what is left of the table: what has come of the first k, and whether x was put. -/
def insN (x : Nd) : List Nd → List Nd × Bool
  | [] => ([], false)
  | e :: r => if x.ino < e.ino then (x :: e :: r, true) else (e :: (insN x r).1, (insN x r).2)
theorem ins_snoc (x : Nd) (l : List Nd) (e : Nd) : insN x (l ++ [e]) = if (insN x l).2 = true then ((insN x l).1 ++ [e], true) else if x.ino < e.ino then ((insN x l).1 ++ [x, e], true) else ((insN x l).1 ++ [e], false) := by
  induction l with
  | nil => simp [insN]
  | cons a r ih =>
    simp only [List.cons_append, insN]
    by_cases h : x.ino < a.ino
    · simp [h]
    · simp only [h, if_false, ih]
      split
      · rfl
      · split <;> rfl
theorem ins_next (x : Nd) {l : List Nd} {k : Nat} (h : k < l.length) : insN x (l.take (k + 1)) = if (insN x (l.take k)).2 = true then ((insN x (l.take k)).1 ++ [l[k]], true) else if x.ino < l[k].ino then ((insN x (l.take k)).1 ++ [x, l[k]], true) else ((insN x (l.take k)).1 ++ [l[k]], false) := by
  rw [List.take_succ_eq_append_getElem h, ins_snoc]
theorem ins_len (x : Nd) (l : List Nd) : (insN x l).1.length ≤ l.length + 1 := by
  induction l with
  | nil => simp [insN]
  | cons a r ih =>
    simp only [insN]
    split
    · simp
    · simp; exact ih
theorem ins_mem (x : Nd) (l : List Nd) (e : Nd) (h : e ∈ (insN x l).1) : e = x ∨ e ∈ l := by
  induction l with
  | nil => simp [insN] at h
  | cons a r ih =>
    simp only [insN] at h
    split at h
    · rcases List.mem_cons.1 h with h | h
      · exact .inl h
      · exact .inr h
    · rcases List.mem_cons.1 h with h | h
      · exact .inr (by simp [h])
      · rcases ih h with h | h
        · exact .inl h
        · exact .inr (by simp [h])
def finN (x : Nd) (l : List Nd) : List Nd := if (insN x l).2 = true then (insN x l).1 else (insN x l).1 ++ [x]
theorem fin_cons_lt {x e : Nd} {r : List Nd} (h : x.ino < e.ino) : finN x (e :: r) = x :: e :: r := by simp [finN, insN, h]
theorem fin_cons_ge {x e : Nd} {r : List Nd} (h : ¬ x.ino < e.ino) : finN x (e :: r) = e :: finN x r := by
  simp only [finN, insN, h, if_false]
  split <;> rfl
theorem fin_eq (x : Nd) (l : List Nd) : finN x (dropN l x.ino) = setN l x := by
  unfold dropN setN
  have hb : finN x (behindN l x.ino) = x :: behindN l x.ino := by
    cases h : behindN l x.ino with
    | nil => rfl
    | cons e r =>
      have : e ∈ behindN l x.ino := by rw [h]; simp
      exact fin_cons_lt (of_decide_eq_true (List.mem_filter.1 this).2)
  have ha : ∀ e ∈ aheadN l x.ino, e.ino < x.ino := fun e he => of_decide_eq_true (List.mem_filter.1 he).2
  revert ha
  induction aheadN l x.ino with
  | nil => intro _; exact hb
  | cons e r ih =>
    intro ha
    have := ha e (by simp)
    rw [List.cons_append, fin_cons_ge (by omega), ih fun e he => ha e (by simp [he])]; rfl

/-- What the rounds of TableHolds keep. -/
def HoldsInv (F kept : List Nd) : Prop := riseP F ∧ F.Perm kept
theorem holds_start : HoldsInv [] [] := ⟨List.Pairwise.nil, List.Perm.refl _⟩
theorem set_perm {l : List Nd} (x : Nd) (hs : riseP l) : (setN l x).Perm (l.filter (fun e => e.ino != x.ino) ++ [x]) := by
  rw [dropN_eq l x.ino hs]
  unfold setN dropN
  rw [List.append_assoc]
  exact (List.Perm.append_left _ (List.perm_append_comm (l₁ := [x]) (l₂ := behindN l x.ino)))
theorem holds_set {F kept : List Nd} (h : HoldsInv F kept) (x : Nd) : HoldsInv (setN F x) (kept.filter (fun e => e.ino != x.ino) ++ [x]) :=
  ⟨set_rise x h.1, (set_perm x h.1).trans ((h.2.filter _).append_right _)⟩
theorem holds_drop {F kept : List Nd} (h : HoldsInv F kept) (x : Nd) : HoldsInv (dropN (setN F x) x.ino) (kept.filter (fun e => e.ino != x.ino)) := by
  have h1 := holds_set h x
  refine ⟨drop_rise _ h1.1, ?_⟩
  rw [← dropN_eq _ _ h1.1]
  have := h1.2.filter (fun e => e.ino != x.ino)
  rw [List.filter_append, List.filter_filter] at this
  simpa using this
theorem holds_get {F kept : List Nd} (h : HoldsInv F kept) {k : Nat} (hk : k < kept.length) : hasN F kept[k].ino = true ∧ getN F kept[k].ino = kept[k] := by
  have hm : kept[k] ∈ F := h.2.mem_iff.2 (List.getElem_mem hk)
  obtain ⟨i, hi, e⟩ := List.getElem_of_mem hm
  have hno : (F.take i).any (fun e => e.ino == kept[k].ino) = false := by
    rw [List.any_eq_false]; intro y hy
    obtain ⟨j, hj, rfl⟩ := List.getElem_of_mem hy
    have hji : j < i := by simp at hj; omega
    have := List.pairwise_iff_getElem.1 h.1 j i (by omega) hi hji
    rw [List.getElem_take, ← e]; simp; omega
  have := getN_at hi hno (by rw [e])
  exact ⟨this.2, this.1.trans e⟩
theorem holds_len {F kept : List Nd} (h : HoldsInv F kept) : F.length = kept.length := h.2.length_eq
theorem filtN_next {l : List Nd} {n : Int} {k : Nat} (h : k < l.length) : (l.take (k + 1)).filter (fun e => e.ino != n) = (l.take k).filter (fun e => e.ino != n) ++ (if l[k].ino != n then [l[k]] else []) := by
  rw [List.take_succ_eq_append_getElem h, List.filter_append]; congr 1; simp only [List.filter_cons, List.filter_nil]
end Go.Proofs.Ytghncegngmeleaa
