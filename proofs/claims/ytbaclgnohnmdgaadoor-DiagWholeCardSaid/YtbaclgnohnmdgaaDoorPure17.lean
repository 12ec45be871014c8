/- Commands read of their words, as lists. No program's function. -/
import Derived.Test.YtbaclgnohnmdgaaDoorPure01b
set_option linter.unusedVariables false
set_option linter.unusedSimpArgs false
namespace Go.Proofs.YtbaclgnohnmdgaaDoor

structure CmdV where
  kind : Int
  opts : List UInt8
  ops : List (List UInt8)
deriving DecidableEq

def nameK (k : Int) : List UInt8 := if k = 1 then [109, 107, 100, 105, 114] else if k = 2 then [114, 109] else if k = 3 then [108, 110] else if k = 4 then [109, 118] else if k = 5 then [99, 112] else []
def allK (k : Int) : List UInt8 := if k = 1 then [112] else if k = 2 then [100, 102, 114, 82] else if k = 3 then [102, 110, 115, 84] else if k = 4 then [102, 110, 84] else if k = 5 then [102, 110, 114, 82, 80, 84] else []
def kindF (w : List UInt8) : Int := if w = nameK 1 then 1 else if w = nameK 2 then 2 else if w = nameK 3 then 3 else if w = nameK 4 then 4 else if w = nameK 5 then 5 else 0
theorem kind_cases (w : List UInt8) : kindF w = 0 ∨ kindF w = 1 ∨ kindF w = 2 ∨ kindF w = 3 ∨ kindF w = 4 ∨ kindF w = 5 := by
  unfold kindF
  repeat' split
  all_goals simp
theorem kind_name {k : Int} (h1 : 1 ≤ k) (h2 : k ≤ 5) : kindF (nameK k) = k := by
  obtain rfl | rfl | rfl | rfl | rfl : k = 1 ∨ k = 2 ∨ k = 3 ∨ k = 4 ∨ k = 5 := by omega
  all_goals decide
theorem name_kind {w : List UInt8} (h : kindF w ≠ 0) : nameK (kindF w) = w := by
  unfold kindF at h ⊢
  repeat' split
  all_goals first | (rename_i h; exact h.symm) | skip
  all_goals simp_all

/-- A word's letters behind its -: those up to the first one that is none, and that one. -/
def scanW (all : List UInt8) : List UInt8 → List UInt8 × List UInt8
  | [] => ([], [])
  | c :: t => if all.contains c = true then (c :: (scanW all t).1, (scanW all t).2) else ([], [c])
theorem scan_yes {all : List UInt8} {c : UInt8} (t : List UInt8) (h : all.contains c = true) : scanW all (c :: t) = (c :: (scanW all t).1, (scanW all t).2) := by rw [scanW, if_pos h]
theorem scan_no {all : List UInt8} {c : UInt8} (t : List UInt8) (h : all.contains c = false) : scanW all (c :: t) = ([], [c]) := by rw [scanW, if_neg (by rw [h]; simp)]
theorem scan_all {all : List UInt8} : ∀ {t : List UInt8}, (∀ c ∈ t, all.contains c = true) → scanW all t = (t, [])
  | [], _ => rfl
  | c :: t, h => by rw [scan_yes t (h c List.mem_cons_self), scan_all fun d hd => h d (List.mem_cons_of_mem _ hd)]
def optW (w : List UInt8) : Bool := decide (2 ≤ w.length) && w.head? == some 45
/-- The letters of words of options, how many words these are, and the first letter that is none. -/
def lettersN (all : List UInt8) : List (List UInt8) → List UInt8 × Nat × List UInt8
  | [] => ([], 0, [])
  | w :: t =>
    if w = [45, 45] then ([], 1, [])
    else if optW w = false then ([], 0, [])
    else if (scanW all (w.drop 1)).2 ≠ [] then ((scanW all (w.drop 1)).1, 0, (scanW all (w.drop 1)).2)
    else ((scanW all (w.drop 1)).1 ++ (lettersN all t).1, (lettersN all t).2.1 + 1, (lettersN all t).2.2)
def lastF (pair s : List UInt8) : UInt8 := s.foldl (fun c x => if pair.contains x = true then x else c) 0
theorem last_snoc (pair s : List UInt8) (x : UInt8) : lastF pair (s ++ [x]) = if pair.contains x = true then x else lastF pair s := by
  unfold lastF; rw [List.foldl_append]; rfl
def isO (k : Int) (s : List UInt8) (x : UInt8) : Bool :=
  if 4 ≤ k ∧ (x = 102 ∨ x = 110) then lastF [102, 110] s == x
  else if x = 114 then s.contains 114 || s.contains 82
  else if x = 82 then false
  else s.contains x
def optionsK (k : Int) (s : List UInt8) (n : Nat) : List UInt8 := ((List.range n).map (fun i => UInt8.ofNat (65 + i))).filter (isO k s)
def optionsF (k : Int) (s : List UInt8) : List UInt8 := optionsK k s 58
theorem options_succ (k : Int) (s : List UInt8) (n : Nat) : optionsK k s (n + 1) = optionsK k s n ++ if isO k s (UInt8.ofNat (65 + n)) = true then [UInt8.ofNat (65 + n)] else [] := by
  unfold optionsK
  rw [List.range_succ, List.map_append, List.filter_append]
  congr 1
  simp only [List.map_cons, List.map_nil, List.filter_cons, List.filter_nil]
theorem options_len (k : Int) (s : List UInt8) (n : Nat) : (optionsK k s n).length ≤ n := by
  unfold optionsK
  refine Nat.le_trans (List.length_filter_le _ _) ?_
  simp
def sMissing : List UInt8 := [109, 105, 115, 115, 105, 110, 103, 32, 99, 111, 109, 109, 97, 110, 100]
def sUnknown : List UInt8 := [58, 32, 117, 110, 107, 110, 111, 119, 110, 32, 99, 111, 109, 109, 97, 110, 100]
def sInvalid : List UInt8 := [58, 32, 105, 110, 118, 97, 108, 105, 100, 32, 111, 112, 116, 105, 111, 110, 32]
def sOperand : List UInt8 := [58, 32, 109, 105, 115, 115, 105, 110, 103, 32, 111, 112, 101, 114, 97, 110, 100]
def sDest : List UInt8 := [58, 32, 109, 105, 115, 115, 105, 110, 103, 32, 100, 101, 115, 116, 105, 110, 97, 116, 105, 111, 110, 32, 111, 112, 101, 114, 97, 110, 100, 32, 97, 102, 116, 101, 114, 32]
def sExtra : List UInt8 := [58, 32, 101, 120, 116, 114, 97, 32, 111, 112, 101, 114, 97, 110, 100, 32]
def noC : CmdV := ⟨0, [], []⟩
def leastF (k : Int) (o : List UInt8) : Nat := if 4 ≤ k ∨ o.contains 84 = true then 2 else 1
/-- What a command's operands come to. -/
def opsF (k : Int) (w o : List UInt8) (ops : List (List UInt8)) : CmdV × List UInt8 :=
  if ops = [] ∧ ¬ (k = 2 ∧ o.contains 102 = true) then (noC, w ++ sOperand)
  else if ops ≠ [] ∧ ops.length < leastF k o then (noC, w ++ sDest ++ quoteB (ops.getLastD []))
  else if 2 < ops.length ∧ o.contains 84 = true then (noC, w ++ sExtra ++ quoteB (ops.getD 2 []))
  else (⟨k, o, ops⟩, [])
def readA : List (List UInt8) → CmdV × List UInt8
  | [] => (noC, sMissing)
  | w :: t =>
    if kindF w = 0 then (noC, quoteB w ++ sUnknown)
    else if (lettersN (allK (kindF w)) t).2.2 ≠ [] then (noC, w ++ sInvalid ++ quoteB (lettersN (allK (kindF w)) t).2.2)
    else opsF (kindF w) w (optionsF (kindF w) (lettersN (allK (kindF w)) t).1) (t.drop (lettersN (allK (kindF w)) t).2.1)

/-! ### The letters, word by word -/
structure LetAt (all : List UInt8) (l : List (List UInt8)) (n : Nat) (s : List UInt8) : Prop where
  le : n ≤ l.length
  eq : lettersN all l = (s ++ (lettersN all (l.drop n)).1, n + (lettersN all (l.drop n)).2.1, (lettersN all (l.drop n)).2.2)
theorem let_start (all : List UInt8) (l : List (List UInt8)) : LetAt all l 0 [] := ⟨Nat.zero_le _, by simp⟩
theorem let_end {all : List UInt8} {l : List (List UInt8)} {s : List UInt8} (h : LetAt all l l.length s) : lettersN all l = (s, l.length, []) := by
  have := h.eq
  rw [List.drop_length] at this
  simpa [lettersN] using this
theorem let_dash {all : List UInt8} {l : List (List UInt8)} {n : Nat} {s : List UInt8} (h : LetAt all l n s) (hn : n < l.length) (e : l[n] = [45, 45]) : lettersN all l = (s, n + 1, []) := by
  have := h.eq
  rw [List.drop_eq_getElem_cons hn, e] at this
  simpa [lettersN] using this
theorem let_word {all : List UInt8} {l : List (List UInt8)} {n : Nat} {s : List UInt8} (h : LetAt all l n s) (hn : n < l.length) (e : ¬ l[n] = [45, 45]) (e2 : optW l[n] = false) : lettersN all l = (s, n, []) := by
  have := h.eq
  rw [List.drop_eq_getElem_cons hn, lettersN, if_neg e, if_pos e2] at this
  simpa using this
theorem let_bad {all : List UInt8} {l : List (List UInt8)} {n : Nat} {s : List UInt8} (h : LetAt all l n s) (hn : n < l.length) (e : ¬ l[n] = [45, 45]) (e2 : optW l[n] = true) (e3 : (scanW all (l[n].drop 1)).2 ≠ []) : lettersN all l = (s ++ (scanW all (l[n].drop 1)).1, n, (scanW all (l[n].drop 1)).2) := by
  have := h.eq
  rw [List.drop_eq_getElem_cons hn, lettersN, if_neg e, if_neg (by rw [e2]; simp), if_pos e3] at this
  simpa using this
theorem let_next {all : List UInt8} {l : List (List UInt8)} {n : Nat} {s : List UInt8} (h : LetAt all l n s) (hn : n < l.length) (e : ¬ l[n] = [45, 45]) (e2 : optW l[n] = true) (e3 : (scanW all (l[n].drop 1)).2 = []) : LetAt all l (n + 1) (s ++ (scanW all (l[n].drop 1)).1) := by
  refine ⟨hn, ?_⟩
  have := h.eq
  rw [List.drop_eq_getElem_cons hn, lettersN, if_neg e, if_neg (by rw [e2]; simp), if_neg (fun c => c e3)] at this
  rw [this]
  simp only [List.append_assoc]
  congr 2
  omega
/-- Within a word: the letters up to i are read. -/
structure ScanAt (all t : List UInt8) (i : Nat) : Prop where
  le : i ≤ t.length
  all' : ∀ c ∈ t.take i, all.contains c = true
theorem scan_start (all t : List UInt8) : ScanAt all t 0 := ⟨Nat.zero_le _, by simp⟩
theorem scan_next {all t : List UInt8} {i : Nat} (h : ScanAt all t i) (hi : i < t.length) (hc : all.contains t[i] = true) : ScanAt all t (i + 1) := by
  refine ⟨hi, fun c hcm => ?_⟩
  rw [List.take_succ_eq_append_getElem hi, List.mem_append] at hcm
  rcases hcm with hcm | hcm
  · exact h.all' c hcm
  · rw [List.mem_singleton.1 hcm]; exact hc
theorem scan_split {all : List UInt8} : ∀ {p q : List UInt8}, (∀ c ∈ p, all.contains c = true) → scanW all (p ++ q) = (p ++ (scanW all q).1, (scanW all q).2)
  | [], _, _ => rfl
  | c :: p, q, h => by rw [List.cons_append, scan_yes _ (h c List.mem_cons_self), scan_split fun d hd => h d (List.mem_cons_of_mem _ hd)]; rfl
theorem scan_end {all t : List UInt8} (h : ScanAt all t t.length) : scanW all t = (t, []) := scan_all fun c hc => h.all' c (by rwa [List.take_length])
theorem scan_stop {all t : List UInt8} {i : Nat} (h : ScanAt all t i) (hi : i < t.length) (hc : all.contains t[i] = false) : scanW all t = (t.take i, [t[i]]) := by
  have := scan_split (q := t.drop i) h.all'
  rw [List.take_append_drop, List.drop_eq_getElem_cons hi, scan_no _ hc, List.append_nil] at this
  exact this

/-! ### Sizes -/
theorem letters_len (all : List UInt8) (m : Nat) : ∀ {l : List (List UInt8)}, (∀ w ∈ l, w.length ≤ m) → (lettersN all l).1.length ≤ l.length * m ∧ (lettersN all l).2.1 ≤ l.length ∧ (lettersN all l).2.2.length ≤ 1
  | [], _ => by simp [lettersN]
  | w :: t, h => by
    have ih := letters_len all m (l := t) fun x hx => h x (List.mem_cons_of_mem _ hx)
    have hw := h w List.mem_cons_self
    have hs : ∀ u : List UInt8, (scanW all u).1.length ≤ u.length ∧ (scanW all u).2.length ≤ 1 := by
      intro u
      induction u with
      | nil => simp [scanW]
      | cons c u ih =>
        rw [scanW]
        split
        · simp; omega
        · simp
    have h1 := hs (w.drop 1)
    rw [List.length_drop] at h1
    have h2 : (t.length + 1) * m = t.length * m + m := Nat.succ_mul _ _
    rw [lettersN]
    split
    · simp
    split
    · simp
    split
    · simp only [List.length_cons]; omega
    · simp only [List.length_cons, List.length_append]; omega

/-! ### In whatever order -/
theorem scan_mem {all : List UInt8} : ∀ {t : List UInt8} {c : UInt8}, c ∈ (scanW all t).1 → all.contains c = true
  | [], _, h => (nomatch h)
  | d :: t, c, h => by
    rw [scanW] at h
    split at h
    · rename_i hd
      rcases List.mem_cons.1 h with rfl | h
      · exact hd
      · exact scan_mem h
    · cases h
theorem letters_dash (all : List UInt8) (ops : List (List UInt8)) : lettersN all ([45, 45] :: ops) = ([], 1, []) := by rw [lettersN, if_pos rfl]
/-- Letters in one word. -/
theorem letters_one {all ls : List UInt8} (h : ∀ c ∈ ls, all.contains c = true) (hd : all.contains 45 = false) (hne : ls ≠ []) (ops : List (List UInt8)) : lettersN all ((45 :: ls) :: [45, 45] :: ops) = (ls, 2, []) := by
  have hw : ¬ (45 :: ls = [45, 45]) := by
    intro e
    have : ls = [45] := (List.cons.inj e).2
    subst this
    rw [h 45 (by simp)] at hd
    cases hd
  have ho : optW (45 :: ls) = true := by
    cases ls with
    | nil => exact absurd rfl hne
    | cons => simp [optW]
  rw [lettersN, if_neg hw, if_neg (by rw [ho]; simp), if_neg (by rw [List.drop_one, List.tail_cons, scan_all h]; simp), List.drop_one, List.tail_cons, scan_all h, letters_dash]
  simp
/-- Letters in words of their own. -/
theorem letters_each {all : List UInt8} (hd : all.contains 45 = false) (ops : List (List UInt8)) : ∀ {ls : List UInt8}, (∀ c ∈ ls, all.contains c = true) → lettersN all (ls.map (fun c => [45, c]) ++ [45, 45] :: ops) = (ls, ls.length + 1, [])
  | [], _ => letters_dash all ops
  | c :: ls, h => by
    have hc := h c List.mem_cons_self
    have hw : ¬ ([45, c] = [45, 45]) := by
      intro e
      have : c = 45 := by simpa using e
      rw [this, hd] at hc; cases hc
    have ih := letters_each hd ops (ls := ls) fun d hd => h d (List.mem_cons_of_mem _ hd)
    have hs : scanW all [c] = ([c], []) := scan_all fun d hd => by rw [List.mem_singleton.1 hd]; exact hc
    rw [List.map_cons, List.cons_append, lettersN, if_neg hw, if_neg (by simp [optW]), if_neg (by rw [List.drop_one, List.tail_cons, hs]; simp), List.drop_one, List.tail_cons, hs, ih]
    simp
/-- What options letters come to lies in which letters stand, where of no pair two do. -/
theorem options_same {k : Int} {s t : List UInt8} (h : ∀ c, c ∈ s ↔ c ∈ t) (hp : 4 ≤ k → ¬ (110 : UInt8) ∈ s) : optionsF k s = optionsF k t := by
  have hc : ∀ c : UInt8, s.contains c = t.contains c := fun c => by
    rw [Bool.eq_iff_iff, List.contains_iff_mem, List.contains_iff_mem]; exact h c
  have hl : ∀ {u : List UInt8}, ¬ (110 : UInt8) ∈ u → lastF [102, 110] u = if (102 : UInt8) ∈ u then 102 else 0 := by
    intro u
    have key : ∀ (u : List UInt8) (z : UInt8), ¬ (110 : UInt8) ∈ u → u.foldl (fun c x => if ([102, 110] : List UInt8).contains x = true then x else c) z = if (102 : UInt8) ∈ u then 102 else z := by
      intro u
      induction u with
      | nil => intro z _; simp
      | cons x u ih =>
        intro z hn
        have hx : x ≠ 110 := fun e => hn (e ▸ List.mem_cons_self)
        rw [List.foldl_cons, ih _ fun hm => hn (List.mem_cons_of_mem _ hm)]
        by_cases h2 : x = 102
        · subst h2; simp
        · have : ([102, 110] : List UInt8).contains x = false := by simp [h2, hx]
          rw [this]
          simp [Ne.symm h2]
    exact key u 0
  have hiso : ∀ x, isO k s x = isO k t x := by
    intro x
    unfold isO
    split
    · rename_i c
      have hs := hp c.1
      have ht : ¬ (110 : UInt8) ∈ t := fun m => hs ((h _).2 m)
      rw [hl hs, hl ht]
      have := h 102
      by_cases m : (102 : UInt8) ∈ s
      · rw [if_pos m, if_pos (this.1 m)]
      · rw [if_neg m, if_neg fun m2 => m (this.2 m2)]
    · simp only [hc]
  unfold optionsF optionsK
  exact congrArg (fun f => List.filter f _) (funext hiso)
end Go.Proofs.YtbaclgnohnmdgaaDoor
