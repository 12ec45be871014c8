/- Paths as lists of bytes: their names, the text that parts make, plain paths. No program's function. -/
namespace Go.Proofs.Ytgonjgbdggpedaa

def oneB (a : List UInt8) : List (List UInt8) := if a = [] then [] else [a]
/-- The names that are left to come, 'a' being what has come of the one at hand. -/
def namesA (a : List UInt8) : List UInt8 → List (List UInt8)
  | [] => oneB a
  | c :: r => if c = 47 then oneB a ++ namesA [] r else namesA (a ++ [c]) r
def namesB (l : List UInt8) : List (List UInt8) := namesA [] l

theorem oneB_nil : oneB [] = [] := rfl
theorem oneB_cons {a : List UInt8} (h : a ≠ []) : oneB a = [a] := if_neg h
theorem namesA_nil (a : List UInt8) : namesA a [] = oneB a := rfl
theorem namesA_slash (a r : List UInt8) : namesA a (47 :: r) = oneB a ++ namesA [] r := by simp [namesA]
theorem namesA_byte (a r : List UInt8) {c : UInt8} (h : c ≠ 47) : namesA a (c :: r) = namesA (a ++ [c]) r := by simp [namesA, h]
theorem namesA_run (x : List UInt8) : ∀ (a r : List UInt8), 47 ∉ x → namesA a (x ++ r) = namesA (a ++ x) r := by
  induction x with
  | nil => intro a r _; simp
  | cons c x ih =>
    intro a r h
    rw [List.cons_append, namesA_byte _ _ (fun e => h (by simp [e])), ih _ _ (fun e => h (by simp [e]))]
    simp
theorem namesB_found (x r : List UInt8) (h : 47 ∉ x) : namesB (x ++ 47 :: r) = oneB x ++ namesB r := by
  unfold namesB; rw [namesA_run _ _ _ h, List.nil_append, namesA_slash]
theorem namesB_none (x : List UInt8) (h : 47 ∉ x) : namesB x = oneB x := by
  have := namesA_run x [] [] h
  simpa [namesB, namesA_nil] using this
theorem namesB_nil : namesB [] = [] := rfl
theorem mem_oneB {a n : List UInt8} (h : n ∈ oneB a) : n = a ∧ a ≠ [] := by
  unfold oneB at h; split at h <;> simp_all
theorem namesA_good (l : List UInt8) : ∀ (a : List UInt8), 47 ∉ a → ∀ n ∈ namesA a l, 47 ∉ n ∧ n ≠ [] := by
  induction l with
  | nil => intro a ha n hn; obtain ⟨rfl, h⟩ := mem_oneB hn; exact ⟨ha, h⟩
  | cons c l ih =>
    intro a ha n hn
    by_cases hc : c = 47
    · subst hc
      rw [namesA_slash] at hn
      rcases List.mem_append.1 hn with h | h
      · obtain ⟨rfl, h⟩ := mem_oneB h; exact ⟨ha, h⟩
      · exact ih [] (by simp) n h
    · rw [namesA_byte _ _ hc] at hn
      exact ih _ (by simp [ha]; exact fun e => hc e.symm) n hn
def goodB (ns : List (List UInt8)) : Prop := ∀ n ∈ ns, 47 ∉ n ∧ n ≠ []
theorem namesB_good (l : List UInt8) : goodB (namesB l) := namesA_good l [] (by simp)
theorem oneB_len (a : List UInt8) : (oneB a).length ≤ a.length := by
  unfold oneB; split
  · simp
  · rename_i h; cases a with | nil => exact absurd rfl h | cons _ _ => simp
theorem namesA_count (l : List UInt8) : ∀ a, (namesA a l).length ≤ a.length + l.length := by
  induction l with
  | nil => intro a; exact oneB_len a
  | cons c l ih =>
    intro a
    by_cases hc : c = 47
    · subst hc
      rw [namesA_slash]
      have := ih []; have := oneB_len a
      simp at *; omega
    · rw [namesA_byte _ _ hc]
      have := ih (a ++ [c]); simp at *; omega
theorem namesB_count (l : List UInt8) : (namesB l).length ≤ l.length := by simpa [namesB] using namesA_count l []
theorem namesA_size (l : List UInt8) : ∀ a, ∀ n ∈ namesA a l, n.length ≤ a.length + l.length := by
  induction l with
  | nil => intro a n hn; obtain ⟨rfl, _⟩ := mem_oneB hn; simp
  | cons c l ih =>
    intro a n hn
    by_cases hc : c = 47
    · subst hc
      rw [namesA_slash] at hn
      rcases List.mem_append.1 hn with h | h
      · obtain ⟨rfl, _⟩ := mem_oneB h; simp
      · have := ih [] n h; simp at *; omega
    · rw [namesA_byte _ _ hc] at hn
      have := ih _ n hn; simp at *; omega
theorem namesB_size (l : List UInt8) : ∀ n ∈ namesB l, n.length ≤ l.length := by
  intro n hn; simpa using namesA_size l [] n hn
theorem namesA_some (l : List UInt8) : ∀ a, a ≠ [] → namesA a l ≠ [] := by
  induction l with
  | nil => intro a ha; rw [namesA_nil, oneB_cons ha]; simp
  | cons c l ih =>
    intro a ha
    by_cases hc : c = 47
    · subst hc; rw [namesA_slash, oneB_cons ha]; simp
    · rw [namesA_byte _ _ hc]; exact ih _ (by simp)

def absB (l : List UInt8) : Bool := l.head? == some 47
def endB (l : List UInt8) : Bool := l.getLast? == some 47
def slashB (l : List UInt8) : Bool := !(namesB l).isEmpty && endB l
theorem namesB_none_abs {l : List UInt8} (h : namesB l = []) : absB l = !l.isEmpty := by
  cases l with
  | nil => rfl
  | cons c r =>
    by_cases hc : c = 47
    · subst hc; rfl
    · unfold namesB at h; rw [namesA_byte _ _ hc] at h; exact absurd h (namesA_some _ _ (by simp))
def baseB (l : List UInt8) : List UInt8 := ((namesB l).getLast?).getD (if absB l then [47] else [])
theorem baseB_some {l : List UInt8} {ns : List (List UInt8)} {n : List UInt8} (h : namesB l = ns ++ [n]) : baseB l = n := by simp [baseB, h]
theorem baseB_none {l : List UInt8} (h : namesB l = []) : baseB l = if absB l then [47] else [] := by simp [baseB, h]

/-- The text of names, a slash ahead of each. -/
def tailB : List (List UInt8) → List UInt8
  | [] => []
  | n :: r => 47 :: (n ++ tailB r)
def interB : List (List UInt8) → List UInt8
  | [] => []
  | n :: r => n ++ tailB r
def putB (a : Bool) (ns : List (List UInt8)) (s : Bool) : List UInt8 := (if a then [47] else []) ++ interB ns ++ (if s && !ns.isEmpty then [47] else [])
def joinB (ns : List (List UInt8)) : List UInt8 := 47 :: interB ns
theorem joinB_put (ns : List (List UInt8)) : putB true ns false = joinB ns := by simp [putB, joinB]
theorem tailB_append (a b : List (List UInt8)) : tailB (a ++ b) = tailB a ++ tailB b := by
  induction a with
  | nil => rfl
  | cons n a ih => simp [tailB, ih]
theorem joinB_tail {ns : List (List UInt8)} (h : ns ≠ []) : joinB ns = tailB ns := by
  cases ns with
  | nil => exact absurd rfl h
  | cons n r => rfl
theorem interB_snoc (ns : List (List UInt8)) (n : List UInt8) : interB (ns ++ [n]) = if ns.isEmpty then n else interB ns ++ 47 :: n := by
  cases ns with
  | nil => simp [interB, tailB]
  | cons m r => simp [interB, tailB_append, tailB]
theorem tailB_snoc (ns : List (List UInt8)) (n : List UInt8) : tailB (ns ++ [n]) = tailB ns ++ 47 :: n := by simp [tailB_append, tailB]
theorem tailB_len (ns : List (List UInt8)) (b : Nat) (h : ∀ n ∈ ns, n.length ≤ b) : (tailB ns).length ≤ ns.length * (b + 1) := by
  induction ns with
  | nil => simp [tailB]
  | cons n r ih =>
    have h1 := ih (fun n hn => h n (by simp [hn])); have h2 := h n (by simp)
    simp only [tailB, List.length_cons, List.length_append, Nat.succ_mul, Nat.add_mul, Nat.one_mul] at *
    omega
theorem interB_len_tail (ns : List (List UInt8)) : (interB ns).length ≤ (tailB ns).length := by
  cases ns <;> simp [interB, tailB]
theorem interB_take (ns : List (List UInt8)) (k : Nat) : (interB (ns.take k)).length ≤ (interB ns).length := by
  cases ns with
  | nil => simp
  | cons n r =>
    cases k with
    | zero => simp [interB]
    | succ k =>
      have : tailB r = tailB (r.take k) ++ tailB (r.drop k) := by rw [← tailB_append, List.take_append_drop]
      simp [interB, this]
theorem tailB_take (ns : List (List UInt8)) (k : Nat) : (tailB (ns.take k)).length ≤ (tailB ns).length := by
  have : tailB ns = tailB (ns.take k) ++ tailB (ns.drop k) := by rw [← tailB_append, List.take_append_drop]
  rw [this]; simp

theorem namesA_total (l : List UInt8) : ∀ a, (tailB (namesA a l)).length ≤ a.length + l.length + 1 := by
  have one : ∀ a : List UInt8, (tailB (oneB a)).length ≤ a.length + 1 := by
    intro a; unfold oneB; split
    · simp [tailB]
    · simp [tailB]
  induction l with
  | nil => intro a; simpa [namesA_nil] using one a
  | cons c l ih =>
    intro a
    by_cases hc : c = 47
    · subst hc
      rw [namesA_slash, tailB_append, List.length_append]
      have := ih []; have := one a
      simp at *; omega
    · rw [namesA_byte _ _ hc]
      have := ih (a ++ [c]); simp at *; omega
theorem namesB_total (l : List UInt8) : (interB (namesB l)).length ≤ l.length + 1 := by
  have h1 := interB_len_tail (namesB l); have h2 := namesA_total l []
  simp [namesB] at *; omega
theorem namesA_tail_more (ns : List (List UInt8)) (r : List UInt8) : ∀ a, goodB ns → namesA a (tailB ns ++ 47 :: r) = oneB a ++ ns ++ namesB r := by
  induction ns with
  | nil => intro a _; simp [tailB, namesA_slash, namesB]
  | cons n ns ih =>
    intro a h
    obtain ⟨h1, h2⟩ := h n (by simp)
    have := ih n (fun m hm => h m (by simp [hm]))
    rw [show tailB (n :: ns) ++ 47 :: r = 47 :: (n ++ (tailB ns ++ 47 :: r)) from by simp [tailB], namesA_slash, namesA_run _ _ _ h1, List.nil_append, this, oneB_cons h2]
    simp
theorem namesA_tail (ns : List (List UInt8)) : ∀ a, goodB ns → namesA a (tailB ns) = oneB a ++ ns := by
  induction ns with
  | nil => intro a _; simp [tailB, namesA_nil]
  | cons n ns ih =>
    intro a h
    obtain ⟨h1, h2⟩ := h n (by simp)
    have := ih n (fun m hm => h m (by simp [hm]))
    rw [tailB, namesA_slash, namesA_run _ _ _ h1, List.nil_append, this, oneB_cons h2]
    simp
theorem namesB_inter (ns : List (List UInt8)) (h : goodB ns) : namesB (interB ns) = ns := by
  cases ns with
  | nil => rfl
  | cons n r =>
    obtain ⟨h1, h2⟩ := h n (by simp)
    unfold namesB interB
    rw [namesA_run _ _ _ h1, List.nil_append, namesA_tail _ _ (fun m hm => h m (by simp [hm])), oneB_cons h2]; rfl
theorem namesB_inter_more (ns : List (List UInt8)) (r : List UInt8) (h : goodB ns) : namesB (interB ns ++ 47 :: r) = ns ++ namesB r := by
  cases ns with
  | nil => simp [interB, namesB, namesA_slash, oneB]
  | cons n ns =>
    obtain ⟨h1, h2⟩ := h n (by simp)
    unfold namesB interB
    rw [List.append_assoc, namesA_run _ _ _ h1, List.nil_append, namesA_tail_more _ _ _ (fun m hm => h m (by simp [hm])), oneB_cons h2]; rfl
theorem namesB_slash (l : List UInt8) : namesB (47 :: l) = namesB l := by simp [namesB, namesA_slash, oneB]
theorem namesB_join (ns : List (List UInt8)) (h : goodB ns) : namesB (joinB ns) = ns := by rw [joinB, namesB_slash, namesB_inter _ h]
theorem namesB_put (a s : Bool) (ns : List (List UInt8)) (h : goodB ns) : namesB (putB a ns s) = ns := by
  have key : ∀ post : List UInt8, (post = [] ∨ post = [47]) → namesB (interB ns ++ post) = ns := by
    rintro post (rfl | rfl)
    · rw [List.append_nil, namesB_inter _ h]
    · rw [namesB_inter_more _ _ h, namesB_nil, List.append_nil]
  unfold putB
  have hp : (if (s && !ns.isEmpty) = true then [47] else ([] : List UInt8)) = [] ∨ (if (s && !ns.isEmpty) = true then [47] else ([] : List UInt8)) = [47] := by split <;> simp
  cases a
  · simpa using key _ hp
  · rw [if_pos rfl, List.append_assoc, List.singleton_append, namesB_slash]; exact key _ hp
theorem absB_put (a s : Bool) (ns : List (List UInt8)) (h : goodB ns) : absB (putB a ns s) = a := by
  cases a
  · cases ns with
    | nil => simp [putB, interB, absB]
    | cons n r =>
      obtain ⟨h1, h2⟩ := h n (by simp)
      cases n with
      | nil => exact absurd rfl h2
      | cons c n =>
        have : c ≠ 47 := fun e => h1 (by simp [e])
        simp [putB, interB, absB, this]
  · simp [putB, absB]
theorem last_app (a b : List UInt8) (h : b ≠ []) : (a ++ b).getLast? = b.getLast? := by
  rw [List.getLast?_append]; cases hb : b.getLast? <;> simp_all
theorem tailB_last (ns : List (List UInt8)) : goodB ns → ∀ a : List UInt8, a ≠ [] → 47 ∉ a → ∃ c, (a ++ tailB ns).getLast? = some c ∧ c ≠ 47 := by
  induction ns with
  | nil =>
    intro _ a h1 h2
    refine ⟨a.getLast h1, by rw [tailB, List.append_nil, List.getLast?_eq_some_getLast h1], fun e => h2 ?_⟩
    rw [← e]; exact List.getLast_mem h1
  | cons n ns ih =>
    intro h a _ _
    obtain ⟨h1, h2⟩ := h n (by simp)
    obtain ⟨c, hc, hn⟩ := ih (fun m hm => h m (by simp [hm])) n h2 h1
    refine ⟨c, ?_, hn⟩
    have hne : n ++ tailB ns ≠ [] := by simp [h2]
    rw [tailB, show a ++ 47 :: (n ++ tailB ns) = (a ++ [47]) ++ (n ++ tailB ns) from by simp, last_app _ _ hne]
    exact hc
theorem endB_put (a s : Bool) (ns : List (List UInt8)) (h : goodB ns) (hn : ns ≠ []) : endB (putB a ns s) = s := by
  cases ns with
  | nil => exact absurd rfl hn
  | cons n r =>
    obtain ⟨h1, h2⟩ := h n (by simp)
    cases s
    · obtain ⟨c, hc, hne⟩ := tailB_last r (fun m hm => h m (by simp [hm])) n h2 h1
      have hne' : n ++ tailB r ≠ [] := by simp [h2]
      simp only [endB, putB, interB, Bool.false_and, Bool.false_eq_true, if_false, List.append_nil]
      rw [last_app _ _ hne', hc]
      simp [hne]
    · simp [endB, putB]
theorem slashB_put (a s : Bool) (ns : List (List UInt8)) (h : goodB ns) : slashB (putB a ns s) = (s && !ns.isEmpty) := by
  unfold slashB
  rw [namesB_put _ _ _ h]
  cases ns with
  | nil => simp
  | cons n r => rw [endB_put _ _ _ h (by simp)]; simp
theorem slashB_eq (l : List UInt8) : (slashB l && !(namesB l).isEmpty) = slashB l := by
  unfold slashB; cases (namesB l).isEmpty <;> simp

def mayB (n : List UInt8) : Bool := !n.isEmpty && (n != [46]) && (n != [46, 46]) && decide (n.length ≤ 255) && !n.contains 47 && !n.contains 0
theorem mayB_good {n : List UInt8} (h : mayB n = true) : 47 ∉ n ∧ n ≠ [] := by
  simp [mayB] at h; exact ⟨h.1.2, h.1.1.1.1.1⟩
theorem mayB_all {ns : List (List UInt8)} (h : ns.all mayB = true) : goodB ns := fun n hn => mayB_good (List.all_eq_true.1 h n hn)
def longB (l : List UInt8) : Bool := decide (4095 < l.length) || (namesB l).any fun n => decide (255 < n.length)
def plainB (l : List UInt8) : Option (List (List UInt8)) := if (namesB l).all mayB && joinB (namesB l) == l then some (namesB l) else none
theorem plainB_bad {l : List UInt8} {k : Nat} (h : k < (namesB l).length) (hm : mayB (namesB l)[k] = false) : plainB l = none := by
  unfold plainB
  rw [if_neg]
  intro e
  simp only [Bool.and_eq_true, List.all_eq_true] at e
  rw [e.1 _ (List.getElem_mem h)] at hm
  exact absurd hm (by simp)
theorem plainB_ok {l : List UInt8} (h : ∀ n ∈ namesB l, mayB n = true) : plainB l = if joinB (namesB l) == l then some (namesB l) else none := by
  unfold plainB
  rw [List.all_eq_true.2 h, Bool.true_and]
theorem plainB_yes {l : List UInt8} {ns : List (List UInt8)} (h : plainB l = some ns) : joinB ns = l ∧ goodB ns ∧ namesB l = ns := by
  unfold plainB at h
  split at h
  · rename_i hc
    simp only [Bool.and_eq_true, beq_iff_eq] at hc
    cases h
    exact ⟨hc.2, namesB_good _, rfl⟩
  · cases h
theorem plainB_join {ns : List (List UInt8)} (h : ns.all mayB = true) : plainB (joinB ns) = some ns := by
  unfold plainB
  rw [namesB_join _ (mayB_all h), h]; simp

/-- As the program asks it. -/
def underB (p q : List UInt8) : Bool := (p == q) || (q == [47]) || (q ++ [47]).isPrefixOf p
theorem joinB_inj {a b : List (List UInt8)} (ha : goodB a) (hb : goodB b) (h : joinB a = joinB b) : a = b := by
  rw [← namesB_join a ha, h, namesB_join b hb]
theorem under_more (a c : List (List UInt8)) : underB (joinB (a ++ c)) (joinB a) = true := by
  unfold underB
  by_cases hc : c = []
  · subst hc; simp
  · by_cases ha : a = []
    · subst ha; simp [joinB, interB]
    · have : (joinB a ++ [47]).isPrefixOf (joinB (a ++ c)) = true := by
        rw [List.isPrefixOf_iff_prefix, joinB_tail ha, joinB_tail (by simp [ha]), tailB_append]
        cases c with
        | nil => exact absurd rfl hc
        | cons n r => exact ⟨n ++ tailB r, by simp [tailB]⟩
      rw [this]; simp
theorem under_prefix {a b : List (List UInt8)} (ha : goodB a) (hb : goodB b) : underB (joinB a) (joinB b) = b.isPrefixOf a := by
  rw [Bool.eq_iff_iff]
  constructor
  · intro h
    simp only [underB, Bool.or_eq_true, beq_iff_eq] at h
    rw [List.isPrefixOf_iff_prefix]
    rcases h with (h | h) | h
    · rw [joinB_inj ha hb h]; exact List.prefix_refl _
    · have := namesB_join b hb
      rw [h] at this
      rw [← this]; simp [namesB, namesA, oneB]
    · rw [List.isPrefixOf_iff_prefix] at h
      obtain ⟨r, hr⟩ := h
      have h1 := namesB_join a ha
      rw [← hr, List.append_assoc, List.singleton_append, joinB, List.cons_append, namesB_slash, namesB_inter_more _ _ hb] at h1
      exact ⟨_, h1⟩
  · intro h
    rw [List.isPrefixOf_iff_prefix] at h
    obtain ⟨c, rfl⟩ := h
    exact under_more b c
theorem under_back (a c : List (List UInt8)) (ha : goodB a) (hc : goodB c) : underB (joinB a) (joinB (a ++ c)) = decide (a.length = (a ++ c).length) := by
  rw [under_prefix ha (fun n hn => (List.mem_append.1 hn).elim (ha n) (hc n)), Bool.eq_iff_iff, List.isPrefixOf_iff_prefix, decide_eq_true_eq]
  constructor
  · intro h; have := h.length_le; rw [List.length_append] at this ⊢; omega
  · intro h
    have : c = [] := List.eq_nil_of_length_eq_zero (by rw [List.length_append] at h; omega)
    subst this; simp
theorem under_root (p : List UInt8) : underB p [47] = true := by simp [underB]
end Go.Proofs.Ytgonjgbdggpedaa
