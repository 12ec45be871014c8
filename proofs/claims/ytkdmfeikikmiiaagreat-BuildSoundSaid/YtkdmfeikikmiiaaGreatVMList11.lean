/- Texts put together: Pure10, Pure10b, Map11, Aid, Strs, Blk, Ents04, Nds05, Step08, Up08, Sound11, New11, Spot11, List11. -/
import Derived.Test.YtkdmfeikikmiiaaGreatVMPure09
import Derived.WalkKit
import Derived.WalkSpells
import Derived.WalkLawsBesides
import Derived.Lib.Hide
import Derived.ShutString
import Derived.Lib.AppendStr
import Derived.Lib.SmallJoins
import Derived.RangeFuncBox
import Derived.Laws.CopyOwn
import Derived.Laws.OwnMore
set_option linter.unusedVariables false
set_option linter.unusedSimpArgs false
namespace Go.Proofs.YtkdmfeikikmiiaaGreat
/-- What an entry's link holds. -/
def lnkD (l : List Nd) (i : Int) (n : List UInt8) : List UInt8 := (getN l (numB (getN l i).ents n)).data
/-- Is the entry taken as it is? -/
def stopB (l : List Nd) (fo dir : Bool) (i : Int) (n : List UInt8) (r : List (List UInt8)) : Bool :=
  !hasB (getN l i).ents n || (getN l (numB (getN l i).ents n)).kind != 3 || (r.isEmpty && !fo && !dir)
/-- On from where one stands, with names to go, so many links being left. -/
def onN (l : List Nd) (fo : Bool) (g : Nat) (s : Sp) (todo : List (List UInt8)) (dir : Bool) : Sp × Int :=
  match todo with
  | [] => if (hasN l s.ino && dir && (getN l s.ino).kind != 2) = true then (zeroS, 3) else (s, 0)
  | n :: r =>
    if s.ino = 0 then (zeroS, 1)
    else if (getN l s.ino).kind = 2 then
      if n = [46] then onN l fo g ⟨0, [], (getN l s.ino).ino⟩ r dir
      else if n = [46, 46] then onN l fo g ⟨0, [], (getN l s.ino).parent⟩ r dir
      else if stopB l fo dir s.ino n r = true then onN l fo g (stepS l s.ino n) r dir
      else match g with
        | 0 => (zeroS, 6)
        | g + 1 => if longB (lnkD l s.ino n) = true then (zeroS, 7)
          else onN l fo g ⟨0, [], if absB (lnkD l s.ino n) = true then 1 else (getN l s.ino).ino⟩ (namesB (lnkD l s.ino n) ++ r) (dir || (slashB (lnkD l s.ino n) && r.isEmpty))
    else (zeroS, 3)
termination_by (g, todo.length)
def homeP (l : List Nd) (base : List UInt8) : Int × Int := if (getP l base).2 ≠ 0 then (0, (getP l base).2) else if (getP l base).1.kind ≠ 2 then (0, 3) else ((getP l base).1.ino, 0)
def seekP (l : List Nd) (base p : List UInt8) (fo : Bool) : Sp × Int :=
  if p = [] then (zeroS, 1) else if longB p = true then (zeroS, 7)
  else if absB p = true then onN l fo 40 rootS (namesB p) (slashB p)
  else if (homeP l base).2 ≠ 0 then (zeroS, (homeP l base).2)
  else onN l fo 40 ⟨0, [], (homeP l base).1⟩ (namesB p) (slashB p)
theorem on_nil (l : List Nd) (fo : Bool) (g : Nat) (s : Sp) (dir : Bool) : onN l fo g s [] dir = if (hasN l s.ino && dir && (getN l s.ino).kind != 2) = true then (zeroS, 3) else (s, 0) := by unfold onN; rfl
theorem on_gone {l : List Nd} {fo : Bool} {g : Nat} {s : Sp} {n : List UInt8} {r : List (List UInt8)} {dir : Bool} (h : s.ino = 0) : onN l fo g s (n :: r) dir = (zeroS, 1) := by
  unfold onN; rw [if_pos h]
theorem on_file {l : List Nd} {fo : Bool} {g : Nat} {s : Sp} {n : List UInt8} {r : List (List UInt8)} {dir : Bool} (h : s.ino ≠ 0) (hk : (getN l s.ino).kind ≠ 2) : onN l fo g s (n :: r) dir = (zeroS, 3) := by
  unfold onN; rw [if_neg h, if_neg hk]
theorem on_dot {l : List Nd} {fo : Bool} {g : Nat} {s : Sp} {n : List UInt8} {r : List (List UInt8)} {dir : Bool} (h : s.ino ≠ 0) (hk : (getN l s.ino).kind = 2) (hn : n = [46]) : onN l fo g s (n :: r) dir = onN l fo g ⟨0, [], (getN l s.ino).ino⟩ r dir := by
  conv => lhs; unfold onN
  rw [if_neg h, if_pos hk, if_pos hn]
theorem on_dots {l : List Nd} {fo : Bool} {g : Nat} {s : Sp} {n : List UInt8} {r : List (List UInt8)} {dir : Bool} (h : s.ino ≠ 0) (hk : (getN l s.ino).kind = 2) (hn : n = [46, 46]) : onN l fo g s (n :: r) dir = onN l fo g ⟨0, [], (getN l s.ino).parent⟩ r dir := by
  conv => lhs; unfold onN
  rw [if_neg h, if_pos hk, if_neg (by rw [hn]; decide), if_pos hn]
theorem on_stop {l : List Nd} {fo : Bool} {g : Nat} {s : Sp} {n : List UInt8} {r : List (List UInt8)} {dir : Bool} (h : s.ino ≠ 0) (hk : (getN l s.ino).kind = 2) (h1 : n ≠ [46]) (h2 : n ≠ [46, 46]) (h3 : stopB l fo dir s.ino n r = true) :
    onN l fo g s (n :: r) dir = onN l fo g (stepS l s.ino n) r dir := by
  conv => lhs; unfold onN
  rw [if_neg h, if_pos hk, if_neg h1, if_neg h2, if_pos h3]
theorem on_loop {l : List Nd} {fo : Bool} {s : Sp} {n : List UInt8} {r : List (List UInt8)} {dir : Bool} (h : s.ino ≠ 0) (hk : (getN l s.ino).kind = 2) (h1 : n ≠ [46]) (h2 : n ≠ [46, 46]) (h3 : stopB l fo dir s.ino n r = false) :
    onN l fo 0 s (n :: r) dir = (zeroS, 6) := by
  unfold onN
  rw [if_neg h, if_pos hk, if_neg h1, if_neg h2, if_neg (by rw [h3]; simp)]
theorem on_long {l : List Nd} {fo : Bool} {g : Nat} {s : Sp} {n : List UInt8} {r : List (List UInt8)} {dir : Bool} (h : s.ino ≠ 0) (hk : (getN l s.ino).kind = 2) (h1 : n ≠ [46]) (h2 : n ≠ [46, 46]) (h3 : stopB l fo dir s.ino n r = false) (h4 : longB (lnkD l s.ino n) = true) :
    onN l fo (g + 1) s (n :: r) dir = (zeroS, 7) := by
  unfold onN
  rw [if_neg h, if_pos hk, if_neg h1, if_neg h2, if_neg (by rw [h3]; simp)]
  show (if longB _ = true then _ else _) = _
  rw [if_pos h4]
theorem on_link {l : List Nd} {fo : Bool} {g : Nat} {s : Sp} {n : List UInt8} {r : List (List UInt8)} {dir : Bool} (h : s.ino ≠ 0) (hk : (getN l s.ino).kind = 2) (h1 : n ≠ [46]) (h2 : n ≠ [46, 46]) (h3 : stopB l fo dir s.ino n r = false) (h4 : longB (lnkD l s.ino n) = false) :
    onN l fo (g + 1) s (n :: r) dir = onN l fo g ⟨0, [], if absB (lnkD l s.ino n) = true then 1 else (getN l s.ino).ino⟩ (namesB (lnkD l s.ino n) ++ r) (dir || (slashB (lnkD l s.ino n) && r.isEmpty)) := by
  conv => lhs; unfold onN
  rw [if_neg h, if_pos hk, if_neg h1, if_neg h2, if_neg (by rw [h3]; simp)]
  show (if longB _ = true then _ else _) = _
  rw [if_neg (by rw [h4]; simp)]
theorem dir_parts {l : List Nd} {i : Int} (h : isDir l i = true) : hasN l i = true ∧ (getN l i).kind = 2 := by
  unfold isDir at h
  rwa [Bool.and_eq_true, decide_eq_true_eq] at h
theorem dir_mk {l : List Nd} {i : Int} (h : hasN l i = true) (hk : (getN l i).kind = 2) : isDir l i = true := by unfold isDir; rw [h, hk]; rfl
theorem kind_has {l : List Nd} {i : Int} (hk : (getN l i).kind = 2) : isDir l i = true := by
  cases h : hasN l i
  · rw [getN_none h] at hk; cases hk
  · exact dir_mk h hk
/-- Who is named lies in a directory. -/
theorem in_dir {l : List Nd} (t : Tree l) {i : Int} (h : 0 < namesN l i) : isDir l (inN l i) = true ∧ ∃ n, (n, i) ∈ (getN l (inN l i)).ents := by
  have hf : (pairsN l).filter (fun p => p.2.2 == i) ≠ [] := by
    intro e
    unfold namesN cntP at h
    rw [List.countP_eq_length_filter, e] at h
    exact absurd h (by simp)
  have hlast := List.getLast?_eq_some_getLast hf
  have hmem := List.getLast_mem hf
  generalize ((pairsN l).filter (fun p => p.2.2 == i)).getLast hf = p at *
  have e : inN l i = p.1 := by unfold inN lastP; rw [hlast]; rfl
  obtain ⟨h1, h2⟩ := List.mem_filter.1 hmem
  obtain ⟨x, hx, hx2⟩ := List.mem_flatMap.1 h1
  obtain ⟨en, he, rfl⟩ := List.mem_map.1 hx2
  rw [e]
  have hg := getN_of t.rise hx
  have hen : en.2 = i := by simpa using h2
  have hin : en ∈ (getN l x.ino).ents := by rw [hg.1]; exact he
  refine ⟨?_, en.1, ?_⟩
  · have := ent_dir t hin
    exact dir_mk this.2 this.1
  · rw [← hen]; exact hin
theorem root_parent {mi mb nx : Int} {l : List Nd} (h : OkS mi mb nx l) : (getN l 1).parent = 1 := by
  have t := tree_c h.check
  obtain ⟨_, _, _, h4, _⟩ := check_parts h.check
  have hm := get_mem t.root
  have := List.all_eq_true.1 h4 _ hm.1
  unfold fourthX at this
  rw [hm.2, if_pos rfl] at this
  simp only [Bool.and_eq_true, decide_eq_true_eq] at this
  exact this.2.2
theorem parent_dir {mi mb nx : Int} {l : List Nd} (h : OkS mi mb nx l) {i : Int} (hd : isDir l i = true) : isDir l (getN l i).parent = true := by
  have t := tree_c h.check
  obtain ⟨hh, hk⟩ := dir_parts hd
  have hm := get_mem hh
  by_cases h1 : i = 1
  · subst h1
    rw [root_parent h]; exact hd
  · have h2 := t.parent _ hm.1 hk (by rw [hm.2]; exact h1)
    have h3 := t.once _ hm.1 hk (by rw [hm.2]; exact h1)
    rw [hm.2] at h2 h3
    rw [h2]
    exact (in_dir t (by omega)).1
theorem no_zero {mi mb nx : Int} {l : List Nd} (h : OkS mi mb nx l) : hasN l 0 = false := by
  obtain ⟨h1, _⟩ := check_parts h.check
  simp only [firstB, Bool.and_eq_true] at h1
  unfold hasN
  rw [List.any_eq_false]
  intro x hx
  have := List.all_eq_true.1 h1.1.2 x hx
  unfold inoB at this
  rw [Bool.and_eq_true, decide_eq_true_eq] at this
  simp; omega
theorem num_has {l : List Nd} (t : Tree l) {i : Int} {n : List UInt8} (h : numB (getN l i).ents n ≠ 0) : hasN l (numB (getN l i).ents n) = true := by
  cases hb : hasB (getN l i).ents n
  · exact absurd (find_none hb).1 h
  · unfold hasB at hb
    rw [List.any_eq_true] at hb
    obtain ⟨e, he, h2⟩ := hb
    have e1 : e.1 = n := by simpa using h2
    have e2 := (num_mem (ents_pair t i) he).1
    rw [e1] at e2
    rw [e2]
    exact t.there _ (get_mem (ent_dir t he).2).1 e he
/-- A place that was followed. -/
structure Good (l : List Nd) (s : Sp) : Prop where
  bare : s.name = [] → isDir l s.ino = true ∧ s.dir = 0
  entry : s.name ≠ [] → isDir l s.dir = true ∧ numB (getN l s.dir).ents s.name = s.ino ∧ (s.ino ≠ 0 → hasN l s.ino = true) ∧ (getN l s.ino).kind ≠ 3
def Fine (l : List Nd) (r : Sp × Int) : Prop := (r.2 = 0 → Good l r.1) ∧ (r.2 ≠ 0 → r.1 = zeroS)
theorem fine_bad {l : List Nd} {e : Int} (h : e ≠ 0) : Fine l (zeroS, e) := ⟨fun h2 => absurd h2 h, fun _ => rfl⟩
theorem good_bare {l : List Nd} {i : Int} (h : isDir l i = true) : Good l ⟨0, [], i⟩ := ⟨fun _ => ⟨h, rfl⟩, fun h => absurd rfl h⟩
theorem step_good {mi mb nx : Int} {l : List Nd} (h : OkS mi mb nx l) {i : Int} {n : List UInt8} (hd : isDir l i = true) (hn : n ≠ []) (hk : (getN l (numB (getN l i).ents n)).kind ≠ 3) : Good l (stepS l i n) := by
  have hm := get_mem (dir_parts hd).1
  refine ⟨fun h => absurd h hn, fun _ => ?_⟩
  have e : (stepS l i n).dir = i := hm.2
  rw [e]
  exact ⟨hd, rfl, fun h2 => num_has (tree_c h.check) h2, hk⟩
theorem on_good {mi mb nx : Int} {l : List Nd} (h : OkS mi mb nx l) (g : Nat) (s : Sp) (todo : List (List UInt8)) (dir : Bool) (hs : Good l s) (hn : ∀ n ∈ todo, n ≠ []) : Fine l (onN l true g s todo dir) := by
  match todo with
  | [] =>
    rw [on_nil]
    split
    · exact fine_bad (by decide)
    · exact ⟨fun _ => hs, fun h => absurd rfl h⟩
  | n :: r =>
    have hn1 := hn n (by simp)
    have hnr : ∀ m ∈ r, m ≠ [] := fun m hm => hn m (by simp [hm])
    by_cases h0 : s.ino = 0
    · rw [on_gone h0]; exact fine_bad (by decide)
    by_cases hk : (getN l s.ino).kind = 2
    · have hd := kind_has hk
      have hm := get_mem (dir_parts hd).1
      by_cases d1 : n = [46]
      · rw [on_dot h0 hk d1]
        exact on_good h g _ r dir (good_bare (by rw [hm.2]; exact hd)) hnr
      by_cases d2 : n = [46, 46]
      · rw [on_dots h0 hk d2]
        exact on_good h g _ r dir (good_bare (parent_dir h hd)) hnr
      cases hst : stopB l true dir s.ino n r
      · match g with
        | 0 => rw [on_loop h0 hk d1 d2 hst]; exact fine_bad (by decide)
        | g + 1 =>
          cases hlo : longB (lnkD l s.ino n)
          · rw [on_link h0 hk d1 d2 hst hlo]
            refine on_good h g _ _ _ (good_bare ?_) ?_
            · split
              · exact kind_has (tree_c h.check).rootDir
              · rw [hm.2]; exact hd
            · intro m hm2
              rcases List.mem_append.1 hm2 with hm2 | hm2
              · exact (namesB_good _ m hm2).2
              · exact hnr m hm2
          · rw [on_long h0 hk d1 d2 hst hlo]; exact fine_bad (by decide)
      · rw [on_stop h0 hk d1 d2 hst]
        refine on_good h g _ r dir (step_good h hd hn1 ?_) hnr
        unfold stopB at hst
        cases hb : hasB (getN l s.ino).ents n
        · rw [(find_none hb).1, getN_none (no_zero h)]; decide
        · rw [hb] at hst
          simpa using hst
    · rw [on_file h0 hk]; exact fine_bad (by decide)
termination_by (g, todo.length)
theorem home_dir {l : List Nd} {base : List UInt8} (h : (homeP l base).2 = 0) : isDir l (homeP l base).1 = true := by
  unfold homeP at h ⊢
  split
  · rename_i h1; rw [if_pos h1] at h; exact absurd h h1
  · rename_i h1
    rw [if_neg h1] at h
    split
    · rename_i h2; rw [if_pos h2] at h; cases h
    · rename_i h2
      have h3 : (getP l base).1.kind = 2 := by simpa using h2
      show isDir l (getP l base).1.ino = true
      have e : getP l base = (getN l (atP l base).1.ino, 0) := by
        unfold getP at h3 h1 ⊢
        split
        · rename_i h4; rw [if_pos h4] at h3; cases h3
        · rename_i h4
          rw [if_neg h4] at h3
          split
          · rename_i h5; rw [if_pos h5] at h3; cases h3
          · rfl
      rw [e] at h3 ⊢
      have hd := kind_has h3
      rw [(get_mem (dir_parts hd).1).2]; exact hd
theorem seek_good {mi mb nx : Int} {l : List Nd} (h : OkS mi mb nx l) (base p : List UInt8) : Fine l (seekP l base p true) := by
  have hg : ∀ n ∈ namesB p, n ≠ [] := fun n hn => (namesB_good p n hn).2
  unfold seekP
  split
  · exact fine_bad (by decide)
  split
  · exact fine_bad (by decide)
  split
  · exact on_good h _ _ _ _ (good_bare (kind_has (tree_c h.check).rootDir)) hg
  split
  · rename_i h1; exact fine_bad h1
  · rename_i h1
    exact on_good h _ _ _ _ (good_bare (home_dir (by simpa using h1))) hg
theorem has_iff {l : List Nd} {i : Int} : hasN l i = true ↔ ∃ x ∈ l, x.ino = i := by simp [hasN]
theorem mem_set {l : List Nd} {x y : Nd} : y ∈ setN l x ↔ y = x ∨ (y ∈ l ∧ y.ino ≠ x.ino) := by
  simp only [setN, aheadN, behindN, List.mem_append, List.mem_cons, List.mem_filter, decide_eq_true_eq]
  constructor
  · rintro (h | h | h)
    · exact .inr ⟨h.1, by omega⟩
    · exact .inl h
    · exact .inr ⟨h.1, by omega⟩
  · rintro (h | ⟨h, h2⟩)
    · exact .inr (.inl h)
    · rcases Int.lt_or_lt_of_ne h2 with h3 | h3
      · exact .inl ⟨h, h3⟩
      · exact .inr (.inr ⟨h, h3⟩)
theorem mem_drop {l : List Nd} {i : Int} {y : Nd} : y ∈ dropN l i ↔ y ∈ l ∧ y.ino ≠ i := by
  simp only [dropN, aheadN, behindN, List.mem_append, List.mem_filter, decide_eq_true_eq]
  constructor
  · rintro (h | h)
    · exact ⟨h.1, by omega⟩
    · exact ⟨h.1, by omega⟩
  · rintro ⟨h, h2⟩
    rcases Int.lt_or_lt_of_ne h2 with h3 | h3
    · exact .inl ⟨h, h3⟩
    · exact .inr ⟨h, h3⟩
theorem bool_eq {a b : Bool} (h : a = true ↔ b = true) : a = b := by cases a <;> cases b <;> simp_all
theorem has_set (l : List Nd) (x : Nd) (i : Int) : hasN (setN l x) i = (decide (i = x.ino) || hasN l i) := by
  refine bool_eq ?_
  rw [has_iff, Bool.or_eq_true, decide_eq_true_eq, has_iff]
  constructor
  · rintro ⟨y, hy, rfl⟩
    rcases mem_set.1 hy with rfl | h
    · exact .inl rfl
    · exact .inr ⟨y, h.1, rfl⟩
  · rintro (rfl | ⟨y, hy, rfl⟩)
    · exact ⟨x, mem_set.2 (.inl rfl), rfl⟩
    · by_cases h : y.ino = x.ino
      · exact ⟨x, mem_set.2 (.inl rfl), h.symm⟩
      · exact ⟨y, mem_set.2 (.inr ⟨hy, h⟩), rfl⟩
theorem has_drop (l : List Nd) (j i : Int) : hasN (dropN l j) i = (decide (i ≠ j) && hasN l i) := by
  refine bool_eq ?_
  rw [has_iff, Bool.and_eq_true, decide_eq_true_eq, has_iff]
  constructor
  · rintro ⟨y, hy, rfl⟩
    have := mem_drop.1 hy
    exact ⟨this.2, y, this.1, rfl⟩
  · rintro ⟨h, y, hy, rfl⟩
    exact ⟨y, mem_drop.2 ⟨hy, h⟩, rfl⟩
theorem get_set {l : List Nd} (hs : riseP l) (x : Nd) (i : Int) : getN (setN l x) i = if i = x.ino then x else getN l i := by
  have hr := set_rise x hs
  by_cases h : i = x.ino
  · rw [if_pos h, h]; exact (getN_of hr (mem_set.2 (.inl rfl))).1
  · rw [if_neg h]
    cases hh : hasN l i
    · rw [getN_none hh, getN_none]
      rw [has_set, hh, decide_eq_false h]; rfl
    · have hm := get_mem hh
      have := (getN_of hr (mem_set.2 (.inr ⟨hm.1, by rw [hm.2]; exact h⟩))).1
      rwa [hm.2] at this
theorem get_set_ne {l : List Nd} (hs : riseP l) {x : Nd} {i : Int} (h : i ≠ x.ino) : getN (setN l x) i = getN l i := by rw [get_set hs, if_neg h]
theorem get_drop {l : List Nd} (hs : riseP l) (j i : Int) : getN (dropN l j) i = if i = j then zeroN else getN l i := by
  have hr := drop_rise j hs
  by_cases h : i = j
  · rw [if_pos h, getN_none]
    rw [has_drop, h]; simp
  · rw [if_neg h]
    cases hh : hasN l i
    · rw [getN_none hh, getN_none]
      rw [has_drop, hh]; simp
    · have hm := get_mem hh
      have := (getN_of hr (mem_drop.2 ⟨hm.1, by rw [hm.2]; exact h⟩)).1
      rwa [hm.2] at this
/-- Rising tables of the same inodes are the same. -/
theorem rise_ext : ∀ {a b : List Nd}, riseP a → riseP b → (∀ y, y ∈ a ↔ y ∈ b) → a = b
  | [], [], _, _, _ => rfl
  | [], y :: b, _, _, h => absurd ((h y).2 (by simp)) (by simp)
  | x :: a, [], _, _, h => absurd ((h x).1 (by simp)) (by simp)
  | x :: a, y :: b, ha, hb, h => by
    obtain ⟨ha1, ha2⟩ := List.pairwise_cons.1 ha
    obtain ⟨hb1, hb2⟩ := List.pairwise_cons.1 hb
    have e : x = y := by
      have h1 := (h x).1 (by simp)
      have h2 := (h y).2 (by simp)
      rcases List.mem_cons.1 h1 with h1 | h1
      · exact h1
      · rcases List.mem_cons.1 h2 with h2 | h2
        · exact h2.symm
        · have := hb1 x h1; have := ha1 y h2; omega
    subst e
    rw [rise_ext ha2 hb2 fun z => ?_]
    constructor
    · intro hz
      rcases List.mem_cons.1 ((h z).1 (by simp [hz])) with e | e
      · subst e; have := ha1 z hz; omega
      · exact e
    · intro hz
      rcases List.mem_cons.1 ((h z).2 (by simp [hz])) with e | e
      · subst e; have := hb1 z hz; omega
      · exact e
def sumN (f : Nd → Nat) (l : List Nd) : Nat := (l.map f).sum
theorem sum_cons (f : Nd → Nat) (x : Nd) (l : List Nd) : sumN f (x :: l) = f x + sumN f l := by simp [sumN]
theorem sum_drop (f : Nd → Nat) (hz : f zeroN = 0) : ∀ {l : List Nd}, riseP l → ∀ i, sumN f (l.filter (fun e => e.ino != i)) + f (getN l i) = sumN f l
  | [], _, i => by simp [sumN, getN, hz]
  | x :: l, h, i => by
    obtain ⟨h1, h2⟩ := List.pairwise_cons.1 h
    have ih := sum_drop f hz h2 i
    by_cases hx : x.ino = i
    · have hg : getN (x :: l) i = x := by unfold getN; rw [List.find?_cons_of_pos (by simpa using hx)]; rfl
      have hn : getN l i = zeroN := getN_none (by
        unfold hasN; rw [List.any_eq_false]; intro y hy; have := h1 y hy; simp; omega)
      rw [hn, hz] at ih
      rw [List.filter_cons_of_neg (by simp [hx]), hg, sum_cons]; omega
    · have hg : getN (x :: l) i = getN l i := by unfold getN; rw [List.find?_cons_of_neg (by simpa using hx)]
      rw [List.filter_cons_of_pos (by simpa using hx), hg, sum_cons, sum_cons]; omega
theorem sum_perm (f : Nd → Nat) {a b : List Nd} (h : a.Perm b) : sumN f a = sumN f b := (h.map f).sum_nat
theorem sum_append (f : Nd → Nat) (a b : List Nd) : sumN f (a ++ b) = sumN f a + sumN f b := by simp [sumN]
theorem sum_set (f : Nd → Nat) (hz : f zeroN = 0) {l : List Nd} (hs : riseP l) (x : Nd) : sumN f (setN l x) + f (getN l x.ino) = sumN f l + f x := by
  rw [sum_perm f (set_perm x hs), sum_append]
  have := sum_drop f hz hs x.ino
  simp only [sumN, List.map_cons, List.map_nil, List.sum_cons, List.sum_nil] at this ⊢
  omega
theorem sum_dropN (f : Nd → Nat) (hz : f zeroN = 0) {l : List Nd} (hs : riseP l) (i : Int) : sumN f (dropN l i) + f (getN l i) = sumN f l := by
  rw [← dropN_eq l i hs]; exact sum_drop f hz hs i
def cntE (j : Int) (x : Nd) : Nat := (x.ents.map (·.2)).count j
theorem names_cnt (l : List Nd) (j : Int) : namesN l j = sumN (cntE j) l := names_sum l j
theorem names_set {l : List Nd} (hs : riseP l) (x : Nd) (j : Int) : namesN (setN l x) j + cntE j (getN l x.ino) = namesN l j + cntE j x := by rw [names_cnt, names_cnt]; exact sum_set _ rfl hs x
theorem names_drop {l : List Nd} (hs : riseP l) (i j : Int) : namesN (dropN l i) j + cntE j (getN l i) = namesN l j := by rw [names_cnt, names_cnt]; exact sum_dropN _ rfl hs i
theorem bytes_sum (l : List Nd) : bytesN l = sumN costN l := by
  induction l with
  | nil => rfl
  | cons x l ih => rw [sum_cons, ← ih]; rfl
theorem bytes_set {l : List Nd} (hs : riseP l) (x : Nd) : bytesN (setN l x) + costN (getN l x.ino) = bytesN l + costN x := by rw [bytes_sum, bytes_sum]; exact sum_set _ rfl hs x
theorem bytes_drop {l : List Nd} (hs : riseP l) (i : Int) : bytesN (dropN l i) + costN (getN l i) = bytesN l := by rw [bytes_sum, bytes_sum]; exact sum_dropN _ rfl hs i
theorem ents_set {l : List Nd} (hs : riseP l) (x : Nd) : entsN (setN l x) + (getN l x.ino).ents.length = entsN l + x.ents.length := sum_set (fun x => x.ents.length) rfl hs x
theorem ents_drop {l : List Nd} (hs : riseP l) (i : Int) : entsN (dropN l i) + (getN l i).ents.length = entsN l := sum_dropN (fun x => x.ents.length) rfl hs i
theorem len_split (p : Nd → Bool) (l : List Nd) : l.length = (l.filter p).length + (l.filter (fun e => !p e)).length := by
  induction l with
  | nil => rfl
  | cons x l ih =>
    rw [List.filter_cons, List.filter_cons]
    cases p x <;> simp <;> omega
theorem len_set_has {l : List Nd} (hs : riseP l) (x : Nd) (h : hasN l x.ino = true) : (setN l x).length = l.length := by
  have h1 := (set_perm x hs).length_eq
  have h2 := len_split (fun e => e.ino != x.ino) l
  have h3 : (l.filter (fun e => !(e.ino != x.ino))).length = 1 := by
    have hm := get_mem h
    have e : l.filter (fun e => !(e.ino != x.ino)) = [getN l x.ino] := by
      refine rise_ext (hs.filter _) (List.pairwise_singleton _ _) fun y => ?_
      rw [List.mem_filter, List.mem_singleton]
      constructor
      · rintro ⟨hy, h4⟩
        have h5 : y.ino = x.ino := by simpa using h4
        rw [← h5]; exact ((getN_of hs hy).1).symm
      · rintro rfl
        exact ⟨hm.1, by simp [hm.2]⟩
    rw [e]; rfl
  rw [List.length_append, List.length_singleton] at h1
  omega
theorem len_set_new {l : List Nd} (hs : riseP l) (x : Nd) (h : hasN l x.ino = false) : (setN l x).length = l.length + 1 := by
  have h1 := (set_perm x hs).length_eq
  rw [List.length_append, List.length_singleton, filt_not h] at h1
  exact h1
theorem len_drop_has {l : List Nd} (hs : riseP l) (i : Int) (h : hasN l i = true) : (dropN l i).length + 1 = l.length := by
  have hm := get_mem h
  have h1 := len_set_has hs (getN l i) (by rw [hm.2]; exact h)
  have h2 := (set_perm (getN l i) hs).length_eq
  rw [List.length_append, List.length_singleton, hm.2, dropN_eq l i hs] at h2
  omega
inductive Reach (l : List Nd) : Int → Prop
  | root : Reach l 1
  | step {i : Int} {e : Ent} : Reach l i → e ∈ (getN l i).ents → Reach l e.2
theorem see_all (es : List Ent) : ∀ (s : List Int), (∀ i ∈ s, i ∈ seeB s es) ∧ ∀ e ∈ es, e.2 ∈ seeB s es := by
  induction es with
  | nil => intro s; exact ⟨fun _ h => h, fun _ h => nomatch h⟩
  | cons a r ih =>
    intro s
    have h1 := ih (if s.contains a.2 then s else s ++ [a.2])
    have ha : a.2 ∈ (if s.contains a.2 then s else s ++ [a.2]) := by
      split
      · rename_i h; simpa using h
      · simp
    refine ⟨fun i hi => h1.1 i ?_, fun e he => ?_⟩
    · split
      · exact hi
      · simp [hi]
    · rcases List.mem_cons.1 he with rfl | he
      · exact h1.1 _ ha
      · exact h1.2 e he
theorem bfs_prefix (l : List Nd) (k j : Nat) : bfsN l k <+: bfsN l (k + j) := by
  induction j with
  | zero => exact List.prefix_rfl
  | succ j ih =>
    refine ih.trans ?_
    rcases Nat.lt_or_ge (k + j) (bfsN l (k + j)).length with h | h
    · rw [← Nat.add_assoc, bfs_next h]; exact see_prefix _ _
    · rw [← Nat.add_assoc, show bfsN l (k + j + 1) = bfsN l (k + j) from bfs_stop h 1]; exact List.prefix_rfl
theorem bfs_reach (l : List Nd) (k : Nat) : ∀ i ∈ bfsN l k, Reach l i := by
  induction k with
  | zero => intro i hi; rw [List.mem_singleton.1 hi]; exact .root
  | succ k ih =>
    rcases Nat.lt_or_ge k (bfsN l k).length with h | h
    · rw [bfs_next h]
      exact see_has _ _ (Reach l) ih fun e he => .step (ih _ (List.getElem_mem h)) he
    · rw [show bfsN l (k + 1) = bfsN l k from bfs_stop h 1]; exact ih
theorem bfs_closed {l : List Nd} {m : Nat} (h : (bfsN l m).length ≤ m) {i : Int} (hi : i ∈ bfsN l m) {e : Ent} (he : e ∈ (getN l i).ents) : e.2 ∈ bfsN l m := by
  obtain ⟨k, hk, rfl⟩ := List.getElem_of_mem hi
  have hkm : k < m := by omega
  -- at round k the element k is there already
  have hlen : k < (bfsN l k).length := by
    refine Decidable.byContradiction fun hn => ?_
    have := bfs_stop (l := l) (k := k) (by omega) (m - k)
    rw [show k + (m - k) = m from by omega] at this
    rw [this] at hk; omega
  have hp := bfs_prefix l k (m - k)
  rw [show k + (m - k) = m from by omega] at hp
  have hg : (bfsN l k)[k] = (bfsN l m)[k] := hp.getElem hlen
  have h1 : e.2 ∈ bfsN l (k + 1) := by
    rw [bfs_next hlen, hg]; exact (see_all _ _).2 e he
  have hp2 := bfs_prefix l (k + 1) (m - (k + 1))
  rw [show k + 1 + (m - (k + 1)) = m from by omega] at hp2
  exact hp2.subset h1
theorem fifth_iff {l : List Nd} (hr : riseP l) (h1 : hasN l 1 = true) (h3 : thirdB l = true) : fifthB l = true ↔ ∀ x ∈ l, Reach l x.ino := by
  unfold fifthB
  rw [decide_eq_true_eq]
  constructor
  · intro h x hx
    have hin : x.ino ∈ bfsN l (l.length + 1) := by
      refine sub_eq (bfs_nodup _ _) (fun z hz => has_inos (bfs_has h3 h1 _ z hz)) (by rw [h]; simp) _ (has_inos (getN_of hr hx).2)
    exact bfs_reach _ _ _ hin
  · intro h
    have hle := bfs_len h3 h1 (l.length + 1)
    have hall : ∀ i, Reach l i → i ∈ bfsN l (l.length + 1) := by
      intro i hi
      induction hi with
      | root => exact (bfs_prefix l 0 (l.length + 1)).subset (by simp [bfsN]) |> fun h => by simpa using h
      | step _ he ih => exact bfs_closed (by omega) ih he
    have hnd : (l.map (·.ino)).Nodup := by
      rw [List.nodup_iff_pairwise_ne, List.pairwise_map]
      exact hr.imp fun h => by omega
    have := len_sub _ _ hnd (fun i hi => by
      obtain ⟨x, hx, rfl⟩ := List.mem_map.1 hi
      exact hall _ (h x hx))
    rw [List.length_map] at this
    omega
end Go.Proofs.YtkdmfeikikmiiaaGreat
namespace Go.Proofs.YtkdmfeikikmiiaaGreat
open Go.RowKit
theorem ret_bool {a b : Bool} (h : a = b) : Ending.returned (.bool a) = .returned (.bool b) := by rw [h]
theorem ret_str {a b : List UInt8} (h : a = b) : Ending.returned (.string ⟨a.toArray⟩) = .returned (.string ⟨b.toArray⟩) := by rw [h]
@[go_sem] theorem str_at (l : List UInt8) (k : Nat) (h : k < (ByteArray.mk l.toArray).size) : (ByteArray.mk l.toArray)[k] = l[k]'(by have h' := h; simp [ByteArray.size] at h'; exact h') := rfl
@[go_sem] theorem take_drop_all {α : Type} (l : List α) (k : Nat) : (l.drop k).take (l.length - k) = l.drop k := List.take_of_length_le (by simp)
/-- Bytes as cells. -/
def bytesV (l : List UInt8) : List Value := l.map fun c => .int .u8 (c.toNat : Int)
/-- The cells of a new block of bytes. -/
theorem cells_block (w : World) (C : Array Value) (t : TypeId) : ∀ (j : Nat) (u : Value), C.toList[j]? = some u → (w.alloc (.cells C t)).cell? ((⟨w.heap.size, 0, none⟩ : Addr).add j) = some u := by
  intro j u h
  have := World.cell?_alloc_mark w C t (0, 0) j
  rw [Addr.add_lit, Nat.zero_add, this]; simpa using h
theorem own_below {w w' : World} {base : Nat} {e : TypeId} {size : Nat} {v : Value} {n : Nat} {xs : List Value} (h : w.ownsRow base e size v n xs) (hg : w.grownBy w' v.ownBlock) (hb : base ≤ w.heap.size) : Below base w w' :=
  (Below.refl base w).grown hg hb fun k hk => (h.lt k hk).1
/-- What is owned stays owned behind whatever turns nothing that was there. -/
theorem own_keep {w w' : World} {base : Nat} {e : TypeId} {size : Nat} {v : Value} {n : Nat} {xs : List Value} (h : w.ownsRow base e size v n xs) (hb : Below w.heap.size w w') : w'.ownsRow base e size v n xs := by
  obtain ⟨h1, h2⟩ := h
  refine ⟨h1, ?_⟩
  rcases h2 with h2 | ⟨g, cap, cur, hv, hg, hh, r⟩
  · exact Or.inl h2
  · have hlt : g < w.heap.size := by
      rcases Nat.lt_or_ge g w.heap.size with h | h
      · exact h
      · simp [Array.getElem?_eq_none h] at hh
    exact Or.inr ⟨g, cap, cur, hv, hg, by rw [hb.block g hlt]; exact hh, r⟩
/-- 'append(s, a, b, ..)': what is appended lies in a block that was just made for it. -/
theorem wpList_append_new {P : Program} {w : World} {ops : Array Oper} {rest : List Oper} {o : Oper} {a : Act} {Q : Exit → Act → World → Prop} (hgd : o.guard = none) (s x : Operand) (t e : TypeId)
    (ho : o.op = .call { callee := .builtin .append, args := #[s, x], argTypes := #[t, t] })
    {i : TypeInfo} {z : Value} {size bytes : Nat} (ht : P.underlying t = some (.slice e)) (hi : P.info? e = some i) (hz : i.zero = some z)
    (hsize : i.size = size) (hby : i.bytes = bytes) (hzs : z.cells.size = size) (hsz : 0 < size) (hbs : bytes ≤ 128)
    (base : Nat) {v : Value} {n : Nat} {xs : List Value} (C : Array Value) (m : Nat) (hs : a.eval s = v) (hx : a.eval x = .slice (some ⟨w.heap.size, 0, none⟩) m m) (hown : w.ownsRow base e size v n xs)
    (hm : C.size = m * size) (h1 : ∀ u ∈ C.toList, u.oneCell' = true) (hb : n + m ≤ 1099511627776) (hbase : base ≤ w.heap.size)
    (hK : ∀ v' w', w'.ownsRow base e size v' (n + m) (xs ++ C.toList) → Below base w w' → wpList P ops Q rest (a.put o.dst v') w') :
    wpList P ops Q (o :: rest) a (w.alloc (.cells C e)) := by
  refine wpList_append_own _ hgd s x t ho base e i z size bytes ht hi hz hsize hby hzs hsz v n xs hs (hown.alloc _) ⟨w.heap.size, 0, none⟩ m m C.toList hx (by simpa using hm) (cells_block w C e) h1 (by unfold maxLen; omega) ?_ (by simp; omega) ?_
  · calc (n + m) * bytes ≤ 1099511627776 * 128 := Nat.mul_le_mul hb hbs
      _ ≤ 140737488355328 := by decide
  · intro v' w' h2 h3 _
    exact hK v' w' h2 (((Below.refl base w).alloc hbase _).trans (own_below (hown.alloc _) h3 (by simp; omega)))
/-- The same, and every block but the row's own stays. -/
theorem wpList_append_near {P : Program} {w : World} {ops : Array Oper} {rest : List Oper} {o : Oper} {a : Act} {Q : Exit → Act → World → Prop} (hgd : o.guard = none) (s x : Operand) (t e : TypeId)
    (ho : o.op = .call { callee := .builtin .append, args := #[s, x], argTypes := #[t, t] })
    {i : TypeInfo} {z : Value} {size bytes : Nat} (ht : P.underlying t = some (.slice e)) (hi : P.info? e = some i) (hz : i.zero = some z)
    (hsize : i.size = size) (hby : i.bytes = bytes) (hzs : z.cells.size = size) (hsz : 0 < size) (hbs : bytes ≤ 128)
    (base : Nat) {v : Value} {n : Nat} {xs : List Value} (C : Array Value) (m : Nat) (hs : a.eval s = v) (hx : a.eval x = .slice (some ⟨w.heap.size, 0, none⟩) m m) (hown : w.ownsRow base e size v n xs)
    (hm : C.size = m * size) (h1 : ∀ u ∈ C.toList, u.oneCell' = true) (hb : n + m ≤ 1099511627776) (hbase : base ≤ w.heap.size)
    (hK : ∀ v' w', w'.ownsRow base e size v' (n + m) (xs ++ C.toList) → (w.alloc (.cells C e)).grownBy w' v.ownBlock → wpList P ops Q rest (a.put o.dst v') w') :
    wpList P ops Q (o :: rest) a (w.alloc (.cells C e)) := by
  refine wpList_append_own _ hgd s x t ho base e i z size bytes ht hi hz hsize hby hzs hsz v n xs hs (hown.alloc _) ⟨w.heap.size, 0, none⟩ m m C.toList hx (by simpa using hm) (cells_block w C e) h1 (by unfold maxLen; omega) ?_ (by simp; omega) ?_
  · calc (n + m) * bytes ≤ 1099511627776 * 128 := Nat.mul_le_mul hb hbs
      _ ≤ 140737488355328 := by decide
  · intro v' w' h2 h3 _
    exact hK v' w' h2 h3
def strsV (ws : List (List UInt8)) : List Value := ws.map fun l => .string ⟨l.toArray⟩
/-- A slice that reads as these texts. -/
def Strs (w : World) (v : Value) (l : List (List UInt8)) : Prop :=
  ∃ a cap, v = .slice a l.length cap ∧ l.length ≤ maxLen ∧ (0 < l.length → ∃ b off, a = some ⟨b, off, none⟩ ∧ b < w.heap.size ∧ ∀ i (h : i < l.length), w.cell? ⟨b, off + i, none⟩ = some (.string ⟨l[i].toArray⟩))
theorem Strs.below {w w' : World} {v : Value} {l : List (List UInt8)} (h : Strs w v l) (hb : Below w.heap.size w w') : Strs w' v l := by
  obtain ⟨a, cap, rfl, hm, h1⟩ := h
  refine ⟨a, cap, rfl, hm, fun hl => ?_⟩
  obtain ⟨b, off, rfl, hlt, hc⟩ := h1 hl
  exact ⟨b, off, rfl, Nat.lt_of_lt_of_le hlt hb.size, fun i hi => (hb.cell (p := ⟨b, off + i, none⟩) hlt).trans (hc i hi)⟩
theorem Strs.nil_ (w : World) : Strs w (.slice none 0 0) [] := ⟨none, 0, rfl, Nat.zero_le _, fun h => absurd h (by simp)⟩
theorem own_strs {w : World} {base : Nat} {e : TypeId} {v : Value} {n : Nat} {l : List (List UInt8)} (h : w.ownsRow base e 1 v n (strsV l)) : Strs w v l := by
  have hlen := h.1
  simp [strsV] at hlen
  subst hlen
  rcases h.2 with ⟨rfl, h0⟩ | ⟨g, cap, cur, rfl, hg, hh, hnc, hcm, hsz, htk⟩
  · have : l = [] := List.eq_nil_of_length_eq_zero h0
    subst this
    exact ⟨none, 0, rfl, Nat.zero_le _, fun h => absurd h (by simp)⟩
  · refine ⟨_, cap, rfl, by omega, fun _ => ⟨g, 0, rfl, ?_, fun i hi => ?_⟩⟩
    · exact (h.lt g rfl).2
    · have hc := World.ownsRow.cells h (g := g) rfl i (.string ⟨l[i].toArray⟩) (by simp [strsV, List.getElem?_eq_getElem hi])
      rw [Addr.add_lit] at hc
      exact hc
/-- A block of cells, each of which may be written. -/
def Blk (W : World) (B : Nat) (t : TypeId) (cs : Array Value) : Prop := W.heap[B]? = some (.cells cs t (0, 0))
theorem Blk.lt {W : World} {B : Nat} {t : TypeId} {cs : Array Value} (h : Blk W B t cs) : B < W.heap.size := (Array.getElem?_eq_some_iff.1 h).1
theorem Blk.cell {W : World} {B : Nat} {t : TypeId} {cs : Array Value} (h : Blk W B t cs) (i : Nat) : W.cell? ⟨B, i, none⟩ = cs[i]? := by simp [World.cell?, show W.heap[B]? = _ from h]
theorem Blk.frozen {W : World} {B : Nat} {t : TypeId} {cs : Array Value} (h : Blk W B t cs) (i : Nat) : W.frozen? ⟨B, i, none⟩ = false := by simp [World.frozen?, show W.heap[B]? = _ from h]
theorem Blk.new (W : World) (t : TypeId) (cs : Array Value) : Blk (W.alloc (.cells cs t)) W.heap.size t cs := World.alloc_heap_new W _
theorem Blk.kept {W W' : World} {row : Option Nat} {B : Nat} {t : TypeId} {cs : Array Value} (h : Blk W B t cs) (hg : W.grownBy W' row) (hne : some B ≠ row) : Blk W' B t cs := (hg.block B h.lt hne).trans h
theorem Blk.below {W W' : World} {n B : Nat} {t : TypeId} {cs : Array Value} (h : Blk W B t cs) (hb : Below n W W') (hn : B < n) : Blk W' B t cs := (hb.block B hn).trans h
theorem Blk.next {W W' : World} {B : Nat} {t : TypeId} {cs : Array Value} (h : Blk W B t cs) (hb : Below W.heap.size W W') : Blk W' B t cs := h.below hb h.lt
theorem Blk.alloc {W : World} {B : Nat} {t : TypeId} {cs : Array Value} (h : Blk W B t cs) (o : Obj) : Blk (W.alloc o) B t cs := h.kept (World.grownBy_alloc W o none) (by simp)
theorem Blk.set {W : World} {B : Nat} {t : TypeId} {cs : Array Value} (h : Blk W B t cs) (i : Nat) (v : Value) : Blk (W.setCell ⟨B, i, none⟩ v) B t (cs.setIfInBounds i v) := by
  obtain ⟨hlt, hk⟩ := Array.getElem?_eq_some_iff.1 h
  show (W.heap.modify B _)[B]? = _
  rw [Array.getElem?_eq_getElem (by rw [Array.size_modify]; exact hlt), Array.getElem_modify_self, hk]
  rfl
theorem Blk.other {W : World} {B B2 i : Nat} {t : TypeId} {cs : Array Value} (h : Blk W B t cs) (hne : B ≠ B2) (v : Value) : Blk (W.setCell ⟨B2, i, none⟩ v) B t cs := by
  show (W.setCell ⟨B2, i, none⟩ v).heap[B]? = _
  rw [Below.heap_setCell _ _ _ B (fun e => hne e)]; exact h
theorem grownBy_set (W : World) (b i : Nat) (v : Value) : W.grownBy (W.setCell ⟨b, i, none⟩ v) (some b) :=
  ⟨rfl, rfl, rfl, (KeepsWalks.setCell W _ v).size, fun k _ hk => Below.heap_setCell _ _ _ k (fun e => hk (by rw [e]))⟩
abbrev entC (e : Ent) : Array Value := #[.string ⟨e.1.toArray⟩, .int .i64 e.2]
def entsV : List Ent → List Value
  | [] => []
  | e :: l => .string ⟨e.1.toArray⟩ :: .int .i64 e.2 :: entsV l
theorem entsV_len (l : List Ent) : (entsV l).length = l.length * 2 := by
  induction l with
  | nil => rfl
  | cons e l ih => simp [entsV, ih]; omega
theorem entsV_append (a b : List Ent) : entsV (a ++ b) = entsV a ++ entsV b := by
  induction a with
  | nil => rfl
  | cons e l ih => simp [entsV, ih]
theorem entsV_one (l : List Ent) : ∀ u ∈ entsV l, u.oneCell' = true := by
  induction l with
  | nil => simp [entsV]
  | cons e l ih =>
    intro u hu
    simp only [entsV, List.mem_cons] at hu
    rcases hu with rfl | rfl | hu
    · rfl
    · rfl
    · exact ih u hu
theorem entsV_at (l : List Ent) : ∀ (i : Nat) (h : i < l.length), (entsV l)[i * 2]? = some (.string ⟨l[i].1.toArray⟩) ∧ (entsV l)[i * 2 + 1]? = some (.int .i64 l[i].2) := by
  induction l with
  | nil => intro i h; simp at h
  | cons e l ih =>
    intro i h
    cases i with
    | zero => exact ⟨rfl, rfl⟩
    | succ i =>
      have := ih i (by simpa using h)
      rw [show (i + 1) * 2 = i * 2 + 2 from by omega, show i * 2 + 2 + 1 = i * 2 + 1 + 2 from by omega]
      simpa [entsV] using this
/-- A slice that reads as these entries. -/
def Ents (w : World) (v : Value) (l : List Ent) : Prop :=
  ∃ a cap, v = .slice a l.length cap ∧ l.length ≤ cap ∧ cap ≤ maxLen ∧ (0 < l.length → ∃ b off, a = some ⟨b, off, none⟩ ∧ b < w.heap.size ∧ ∀ i (h : i < l.length), w.cell? ⟨b, off + i * 2, none⟩ = some (.string ⟨l[i].1.toArray⟩) ∧ w.cell? ⟨b, off + i * 2 + 1, none⟩ = some (.int .i64 l[i].2))
theorem Ents.below {w w' : World} {v : Value} {l : List Ent} (h : Ents w v l) (hb : Below w.heap.size w w') : Ents w' v l := by
  obtain ⟨a, cap, rfl, hc, hm, h1⟩ := h
  refine ⟨a, cap, rfl, hc, hm, fun hl => ?_⟩
  obtain ⟨b, off, rfl, hlt, hx⟩ := h1 hl
  exact ⟨b, off, rfl, Nat.lt_of_lt_of_le hlt hb.size, fun i hi => ⟨(hb.cell (p := ⟨b, off + i * 2, none⟩) hlt).trans (hx i hi).1, (hb.cell (p := ⟨b, off + i * 2 + 1, none⟩) hlt).trans (hx i hi).2⟩⟩
theorem Ents.nil_ (w : World) : Ents w (.slice none 0 0) [] := ⟨none, 0, rfl, Nat.zero_le _, Nat.zero_le _, fun h => absurd h (by simp)⟩
/-- A piece of a slice of entries. -/
theorem Ents.cut {w : World} {a : Option Addr} {n cap : Nat} {l : List Ent} (h : Ents w (.slice a n cap) l) (k m : Nat) (hk : k ≤ l.length) (hm : k ≤ m) (hml : m ≤ l.length) (a' : Option Addr) (cap' : Nat) (hc : m - k ≤ cap') (hcm : cap' ≤ maxLen)
    (ha : k < m → ∀ b off, a = some ⟨b, off, none⟩ → a' = some ⟨b, off + k * 2, none⟩) : Ents w (.slice a' (m - k) cap') ((l.take m).drop k) := by
  obtain ⟨x, c, hx, hlc, hcx, h1⟩ := h
  simp only [Value.slice.injEq] at hx
  obtain ⟨rfl, rfl, rfl⟩ := hx
  have hlen : ((l.take m).drop k).length = m - k := by rw [List.length_drop, List.length_take, Nat.min_eq_left hml]
  refine ⟨a', cap', by rw [hlen], by rw [hlen]; exact hc, hcm, fun hl => ?_⟩
  rw [hlen] at hl
  obtain ⟨b, off, rfl, hlt, hcell⟩ := h1 (by omega)
  refine ⟨b, off + k * 2, ha (by omega) b off rfl, hlt, fun i hi => ?_⟩
  rw [hlen] at hi
  have := hcell (k + i) (by omega)
  rw [show off + (k + i) * 2 = off + k * 2 + i * 2 from by omega] at this
  simpa using this
theorem Ents.head {w : World} {a : Option Addr} {n cap : Nat} {l : List Ent} (h : Ents w (.slice a n cap) l) (k cap' : Nat) (hk : k ≤ l.length) (hc : k ≤ cap') (hcm : cap' ≤ maxLen) : Ents w (.slice a k cap') (l.take k) := by
  have := h.cut 0 k (Nat.zero_le _) (Nat.zero_le _) hk a cap' (by omega) hcm (fun _ b off e => by rw [e]; simp)
  simpa using this
theorem Ents.tail {w : World} {a : Option Addr} {n cap : Nat} {l : List Ent} (h : Ents w (.slice a n cap) l) (k : Nat) (a' : Option Addr) (m cap' : Nat) (hk : k ≤ l.length) (hm : m = l.length - k) (hc : l.length - k ≤ cap') (hcm : cap' ≤ maxLen)
    (ha : k < l.length → a' = a.map fun x => x.add (k * 2)) : Ents w (.slice a' m cap') (l.drop k) := by
  subst hm
  have := h.cut k l.length hk hk (Nat.le_refl _) a' cap' hc hcm (fun hkl b off e => by rw [ha hkl, e, Option.map_some, Addr.add_lit])
  simpa using this
/-- The cells of a slice of entries, as a source of a copy or an append. -/
theorem Ents.src {w : World} {a : Option Addr} {n cap : Nat} {l : List Ent} (h : Ents w (.slice a n cap) l) (hl : 0 < l.length) : ∃ ad : Addr, a = some ad ∧ ad.block < w.heap.size ∧ ∀ j v, (entsV l)[j]? = some v → w.cell? (ad.add j) = some v := by
  obtain ⟨x, c, hx, _, _, h1⟩ := h
  simp only [Value.slice.injEq] at hx
  obtain ⟨rfl, rfl, rfl⟩ := hx
  obtain ⟨b, off, rfl, hlt, hcell⟩ := h1 hl
  refine ⟨_, rfl, hlt, fun j v hv => ?_⟩
  have hj : j < l.length * 2 := by
    rcases Nat.lt_or_ge j (entsV l).length with h | h
    · rwa [entsV_len] at h
    · rw [List.getElem?_eq_none h] at hv; cases hv
  have hc := hcell (j / 2) (by omega)
  have he := entsV_at l (j / 2) (by omega)
  rw [Addr.add_lit]
  rcases Nat.mod_two_eq_zero_or_one j with h2 | h2
  · have e : j / 2 * 2 = j := by omega
    rw [e] at hc he
    rw [he.1] at hv; rw [← hv]; exact hc.1
  · have e : j / 2 * 2 + 1 = j := by omega
    rw [show off + j / 2 * 2 + 1 = off + (j / 2 * 2 + 1) from by omega, e] at hc
    rw [e] at he
    rw [he.2] at hv; rw [← hv]; exact hc.2
abbrev ndC (x : Nd) : Array Value := #[.int .i64 x.ino, .int .i64 x.kind, .int .i64 x.links, .string ⟨x.data.toArray⟩, .int .i64 x.parent, x.ev]
def ndsV : List Nd → List Value
  | [] => []
  | x :: l => .int .i64 x.ino :: .int .i64 x.kind :: .int .i64 x.links :: .string ⟨x.data.toArray⟩ :: .int .i64 x.parent :: x.ev :: ndsV l
theorem ndsV_len (l : List Nd) : (ndsV l).length = l.length * 6 := by
  induction l with
  | nil => rfl
  | cons e l ih => simp [ndsV, ih]; omega
theorem ndsV_append (a b : List Nd) : ndsV (a ++ b) = ndsV a ++ ndsV b := by
  induction a with
  | nil => rfl
  | cons e l ih => simp [ndsV, ih]
/-- Each inode's entries. -/
def EntsAll (w : World) (l : List Nd) : Prop := ∀ x ∈ l, Ents w x.ev x.ents
theorem EntsAll.below {w w' : World} {l : List Nd} (h : EntsAll w l) (hb : Below w.heap.size w w') : EntsAll w' l := fun x hx => (h x hx).below hb
theorem EntsAll.sub {w : World} {l l' : List Nd} (h : EntsAll w l) (hs : ∀ x ∈ l', x ∈ l) : EntsAll w l' := fun x hx => h x (hs x hx)
theorem Ents.one {w : World} {v : Value} {l : List Ent} (h : Ents w v l) : v.oneCell' = true := by obtain ⟨a, cap, rfl, _⟩ := h; rfl
theorem ndsV_one {w : World} {l : List Nd} (h : EntsAll w l) : ∀ u ∈ ndsV l, u.oneCell' = true := by
  induction l with
  | nil => simp [ndsV]
  | cons e l ih =>
    intro u hu
    simp only [ndsV, List.mem_cons] at hu
    rcases hu with rfl | rfl | rfl | rfl | rfl | rfl | hu
    · rfl
    · rfl
    · rfl
    · rfl
    · rfl
    · exact (h e (by simp)).one
    · exact ih (h.sub (by simp +contextual)) u hu
/-- An inode's six cells. -/
def NdAt (w : World) (b o : Nat) (x : Nd) : Prop :=
  w.cell? ⟨b, o, none⟩ = some (.int .i64 x.ino) ∧ w.cell? ⟨b, o + 1, none⟩ = some (.int .i64 x.kind) ∧ w.cell? ⟨b, o + 2, none⟩ = some (.int .i64 x.links) ∧
    w.cell? ⟨b, o + 3, none⟩ = some (.string ⟨x.data.toArray⟩) ∧ w.cell? ⟨b, o + 4, none⟩ = some (.int .i64 x.parent) ∧ w.cell? ⟨b, o + 5, none⟩ = some x.ev
theorem NdAt.below {w w' : World} {b o n : Nat} {x : Nd} (h : NdAt w b o x) (hb : Below n w w') (hn : b < n) : NdAt w' b o x :=
  ⟨(hb.cell (p := ⟨b, o, none⟩) hn).trans h.1, (hb.cell (p := ⟨b, o + 1, none⟩) hn).trans h.2.1, (hb.cell (p := ⟨b, o + 2, none⟩) hn).trans h.2.2.1, (hb.cell (p := ⟨b, o + 3, none⟩) hn).trans h.2.2.2.1,
    (hb.cell (p := ⟨b, o + 4, none⟩) hn).trans h.2.2.2.2.1, (hb.cell (p := ⟨b, o + 5, none⟩) hn).trans h.2.2.2.2.2⟩
theorem ndsV_at (l : List Nd) : ∀ (i : Nat) (h : i < l.length), (ndsV l)[i * 6]? = some (.int .i64 l[i].ino) ∧ (ndsV l)[i * 6 + 1]? = some (.int .i64 l[i].kind) ∧ (ndsV l)[i * 6 + 2]? = some (.int .i64 l[i].links) ∧
    (ndsV l)[i * 6 + 3]? = some (.string ⟨l[i].data.toArray⟩) ∧ (ndsV l)[i * 6 + 4]? = some (.int .i64 l[i].parent) ∧ (ndsV l)[i * 6 + 5]? = some l[i].ev := by
  induction l with
  | nil => intro i h; simp at h
  | cons e l ih =>
    intro i h
    cases i with
    | zero => exact ⟨rfl, rfl, rfl, rfl, rfl, rfl⟩
    | succ i =>
      have := ih i (by simpa using h)
      rw [show (i + 1) * 6 = i * 6 + 6 from by omega, show i * 6 + 6 + 1 = i * 6 + 1 + 6 from by omega, show i * 6 + 6 + 2 = i * 6 + 2 + 6 from by omega, show i * 6 + 6 + 3 = i * 6 + 3 + 6 from by omega,
        show i * 6 + 6 + 4 = i * 6 + 4 + 6 from by omega, show i * 6 + 6 + 5 = i * 6 + 5 + 6 from by omega]
      simpa [ndsV] using this
/-- A slice that reads as these inodes. -/
def Nds (w : World) (v : Value) (l : List Nd) : Prop :=
  ∃ a cap, v = .slice a l.length cap ∧ l.length ≤ cap ∧ cap ≤ maxLen ∧ EntsAll w l ∧ (a = none → cap = 0) ∧ (0 < l.length → ∃ b off, a = some ⟨b, off, none⟩ ∧ b < w.heap.size ∧ ∀ i (h : i < l.length), NdAt w b (off + i * 6) l[i])
theorem Nds.all {w : World} {v : Value} {l : List Nd} (h : Nds w v l) : EntsAll w l := by obtain ⟨_, _, _, _, _, h, _⟩ := h; exact h
theorem Nds.below {w w' : World} {v : Value} {l : List Nd} (h : Nds w v l) (hb : Below w.heap.size w w') : Nds w' v l := by
  obtain ⟨a, cap, rfl, hc, hm, he, h0, h1⟩ := h
  refine ⟨a, cap, rfl, hc, hm, he.below hb, h0, fun hl => ?_⟩
  obtain ⟨b, off, rfl, hlt, hx⟩ := h1 hl
  exact ⟨b, off, rfl, Nat.lt_of_lt_of_le hlt hb.size, fun i hi => (hx i hi).below hb hlt⟩
theorem Nds.nil_ (w : World) : Nds w (.slice none 0 0) [] := ⟨none, 0, rfl, Nat.zero_le _, Nat.zero_le _, (fun _ h => nomatch h), (fun _ => rfl), (fun h => absurd h (by simp))⟩
/-- What is owned reads so. -/
theorem own_nds {w : World} {base : Nat} {e : TypeId} {v : Value} {n : Nat} {l : List Nd} (h : w.ownsRow base e 6 v n (ndsV l)) (he : EntsAll w l) : Nds w v l := by
  have hlen := h.1
  rw [ndsV_len] at hlen
  obtain rfl : n = l.length := by omega
  rcases h.2 with ⟨rfl, h0⟩ | ⟨g, cap, cur, rfl, hg, hh, hnc, hcm, hsz, htk⟩
  · have : l = [] := List.eq_nil_of_length_eq_zero h0
    subst this
    exact Nds.nil_ w
  · refine ⟨_, cap, rfl, hnc, hcm, he, fun h => (by cases h), fun _ => ⟨g, 0, rfl, (h.lt g rfl).2, fun i hi => ?_⟩⟩
    have hat := ndsV_at l i hi
    have c := fun j (hj : j < l.length * 6) => h.cellAt j hj
    rw [Nat.zero_add]
    exact ⟨(c _ (by omega)).trans hat.1, (c _ (by omega)).trans hat.2.1, (c _ (by omega)).trans hat.2.2.1, (c _ (by omega)).trans hat.2.2.2.1, (c _ (by omega)).trans hat.2.2.2.2.1, (c _ (by omega)).trans hat.2.2.2.2.2⟩
theorem blk_nds {w : World} {g : Nat} {t : TypeId} {L : List Nd} (h : Blk w g t (ndsV L).toArray) (hl : L.length ≤ maxLen) (he : EntsAll w L) (n : Nat) (hn : n = L.length) : Nds w (.slice (some ⟨g, 0, none⟩) n n) L := by
  subst hn
  refine ⟨_, _, rfl, Nat.le_refl _, hl, he, fun h => (by cases h), fun _ => ⟨g, 0, rfl, h.lt, fun i hi => ?_⟩⟩
  have hat := ndsV_at L i hi
  unfold NdAt
  rw [h.cell, h.cell, h.cell, h.cell, h.cell, h.cell, Nat.zero_add]
  simpa using hat
/-- A piece of a slice of inodes. -/
theorem Nds.cut {w : World} {a : Option Addr} {n cap : Nat} {l : List Nd} (h : Nds w (.slice a n cap) l) (k m : Nat) (hk : k ≤ l.length) (hm : k ≤ m) (hml : m ≤ l.length) (a' : Option Addr) (cap' : Nat) (hc : m - k ≤ cap') (hcm : cap' ≤ maxLen) (hn : a' = none → cap' = 0)
    (ha : k < m → ∀ b off, a = some ⟨b, off, none⟩ → a' = some ⟨b, off + k * 6, none⟩) : Nds w (.slice a' (m - k) cap') ((l.take m).drop k) := by
  obtain ⟨x, c, hx, hlc, hcx, he, h0, h1⟩ := h
  simp only [Value.slice.injEq] at hx
  obtain ⟨rfl, rfl, rfl⟩ := hx
  have hlen : ((l.take m).drop k).length = m - k := by rw [List.length_drop, List.length_take, Nat.min_eq_left hml]
  refine ⟨a', cap', by rw [hlen], by rw [hlen]; exact hc, hcm, he.sub fun x hx => List.mem_of_mem_take (List.mem_of_mem_drop hx), hn, fun hl => ?_⟩
  rw [hlen] at hl
  obtain ⟨b, off, rfl, hlt, hcell⟩ := h1 (by omega)
  refine ⟨b, off + k * 6, ha (by omega) b off rfl, hlt, fun i hi => ?_⟩
  rw [hlen] at hi
  have := hcell (k + i) (by omega)
  rw [show off + (k + i) * 6 = off + k * 6 + i * 6 from by omega] at this
  simpa using this
theorem Nds.head {w : World} {a : Option Addr} {n cap : Nat} {l : List Nd} (h : Nds w (.slice a n cap) l) (k cap' : Nat) (hk : k ≤ l.length) (hc : k ≤ cap') (hcm : cap' ≤ maxLen) (hn : a = none → cap' = 0) : Nds w (.slice a k cap') (l.take k) := by
  have := h.cut 0 k (Nat.zero_le _) (Nat.zero_le _) hk a cap' (by omega) hcm hn (fun _ b off e => by rw [e]; simp)
  simpa using this
theorem Nds.tail {w : World} {a : Option Addr} {n cap : Nat} {l : List Nd} (h : Nds w (.slice a n cap) l) (k : Nat) (a' : Option Addr) (m cap' : Nat) (hk : k ≤ l.length) (hm : m = l.length - k) (hc : l.length - k ≤ cap') (hcm : cap' ≤ maxLen) (hn : a' = none → cap' = 0)
    (ha : k < l.length → a' = a.map fun x => x.add (k * 6)) : Nds w (.slice a' m cap') (l.drop k) := by
  subst hm
  have := h.cut k l.length hk hk (Nat.le_refl _) a' cap' hc hcm hn (fun hkl b off e => by rw [ha hkl, e, Option.map_some, Addr.add_lit])
  simpa using this
/-- The cells of a slice of inodes, as a source of an append. -/
theorem Nds.src {w : World} {a : Option Addr} {n cap : Nat} {l : List Nd} (h : Nds w (.slice a n cap) l) : ∀ ad, a = some ad → ∀ j v, (ndsV l)[j]? = some v → w.cell? (ad.add j) = some v := by
  intro ad had j v hv
  have hj : j < l.length * 6 := by
    rcases Nat.lt_or_ge j (ndsV l).length with h | h
    · rwa [ndsV_len] at h
    · rw [List.getElem?_eq_none h] at hv; cases hv
  obtain ⟨x, c, hx, _, _, _, _, h1⟩ := h
  simp only [Value.slice.injEq] at hx
  obtain ⟨rfl, rfl, rfl⟩ := hx
  obtain ⟨b, off, e, hlt, hcell⟩ := h1 (by omega)
  obtain rfl : ad = ⟨b, off, none⟩ := by rw [had] at e; exact Option.some.inj e
  obtain ⟨q, r, hr, rfl⟩ : ∃ q r, r < 6 ∧ j = q * 6 + r := ⟨j / 6, j % 6, by omega, by omega⟩
  have hc := hcell q (by omega)
  have he := ndsV_at l q (by omega)
  rw [Addr.add_lit]
  have hm : r = 0 ∨ r = 1 ∨ r = 2 ∨ r = 3 ∨ r = 4 ∨ r = 5 := by omega
  unfold NdAt at hc
  rw [← Nat.add_assoc]
  rcases hm with rfl | rfl | rfl | rfl | rfl | rfl
  · rw [Nat.add_zero] at hv ⊢; rw [← hv, he.1]; exact hc.1
  · rw [← hv, he.2.1]; exact hc.2.1
  · rw [← hv, he.2.2.1]; exact hc.2.2.1
  · rw [← hv, he.2.2.2.1]; exact hc.2.2.2.1
  · rw [← hv, he.2.2.2.2.1]; exact hc.2.2.2.2.1
  · rw [← hv, he.2.2.2.2.2]; exact hc.2.2.2.2.2
end Go.Proofs.YtkdmfeikikmiiaaGreat
namespace Go.Proofs.YtkdmfeikikmiiaaGreat
theorem ents_has {l : List Nd} {i : Int} {e : Ent} (h : e ∈ (getN l i).ents) : hasN l i = true := by
  cases hh : hasN l i
  · rw [getN_none hh] at h; cases h
  · rfl
theorem pair_mem {l : List Nd} {d : Int} {e : Ent} (h : e ∈ (getN l d).ents) : (d, e) ∈ pairsN l := by
  have hm := get_mem (ents_has h)
  exact List.mem_flatMap.2 ⟨_, hm.1, List.mem_map.2 ⟨e, h, by rw [hm.2]⟩⟩
/-- Who is named once, is named there. -/
theorem in_of {l : List Nd} {i d : Int} {n : List UInt8} (h1 : namesN l i = 1) (he : (n, i) ∈ (getN l d).ents) : inN l i = d := by
  unfold namesN cntP at h1
  rw [List.countP_eq_length_filter] at h1
  obtain ⟨p, hp⟩ := List.length_eq_one_iff.1 h1
  have hm : (d, (n, i)) ∈ (pairsN l).filter (fun p => p.2.2 == i) := List.mem_filter.2 ⟨pair_mem he, by simp⟩
  unfold inN lastP
  rw [hp] at hm ⊢
  rw [← List.mem_singleton.1 hm]; rfl
theorem names_pos {l : List Nd} {d i : Int} {n : List UInt8} (h : (n, i) ∈ (getN l d).ents) : 0 < namesN l i := by
  unfold namesN cntP
  rw [List.countP_pos_iff]
  exact ⟨_, pair_mem h, by simp⟩
structure SoundP (mi mb nx : Int) (l : List Nd) : Prop where
  lim : limB mi mb nx = true
  ino : ∀ x ∈ l, 1 ≤ x.ino ∧ x.ino < nx
  rise : riseP l
  root : hasN l 1 = true
  rootDir : (getN l 1).kind = 2
  kind : ∀ x ∈ l, secondX x = true
  there : ∀ x ∈ l, ∀ e ∈ x.ents, hasN l e.2 = true
  links : ∀ x ∈ l, x.links = (namesN l x.ino : Int)
  noRoot : namesN l 1 = 0
  rootPar : (getN l 1).parent = 1
  named : ∀ x ∈ l, x.ino ≠ 1 → 1 ≤ namesN l x.ino
  once : ∀ x ∈ l, x.kind = 2 → x.ino ≠ 1 → namesN l x.ino = 1 ∧ ∃ n, (n, x.ino) ∈ (getN l x.parent).ents
  reach : ∀ x ∈ l, Reach l x.ino
  fits : fitsB mi mb l 0 0 = true
theorem named_by {l : List Nd} (hr : riseP l) {i : Int} (h : 0 < namesN l i) : ∃ d n, (n, i) ∈ (getN l d).ents := by
  unfold namesN cntP at h
  rw [List.countP_pos_iff] at h
  obtain ⟨p, hp, h2⟩ := h
  obtain ⟨x, hx, hx2⟩ := List.mem_flatMap.1 hp
  obtain ⟨e, he, rfl⟩ := List.mem_map.1 hx2
  have hg := (getN_of hr hx).1
  have : e.2 = i := by simpa using h2
  exact ⟨x.ino, e.1, by rw [hg, ← this]; exact he⟩
theorem check_zero {mi mb nx : Int} {l : List Nd} : checkN mi mb nx l = 0 ↔ firstB mi mb nx l = true ∧ secondB l = true ∧ thirdB l = true ∧ fourthB l = true ∧ fifthB l = true ∧ fitsB mi mb l 0 0 = true := by
  unfold checkN
  cases firstB mi mb nx l
  · simp
  cases secondB l
  · simp
  cases thirdB l
  · simp
  cases fourthB l
  · simp
  cases fifthB l
  · simp
  cases fitsB mi mb l 0 0
  · simp
  · simp
theorem sound_of {mi mb nx : Int} {l : List Nd} (h : checkN mi mb nx l = 0) : SoundP mi mb nx l := by
  obtain ⟨h1, h2, h3, h4, h5, h6⟩ := check_zero.1 h
  have hf := h1
  simp only [firstB, rootB, Bool.and_eq_true, beq_iff_eq] at hf
  have hr := (riseN_iff l).1 hf.2.1.1
  have h4' := fun x hx => List.all_eq_true.1 h4 x hx
  have hroot := get_mem hf.2.1.2
  have hr4 : namesN l 1 = 0 ∧ (getN l 1).parent = 1 := by
    have := h4' _ hroot.1
    unfold fourthX at this
    rw [hroot.2, if_pos rfl] at this
    simp only [Bool.and_eq_true, decide_eq_true_eq] at this
    exact this.2
  have h4n : ∀ x ∈ l, x.ino ≠ 1 → 1 ≤ namesN l x.ino ∧ (x.kind = 2 → namesN l x.ino = 1 ∧ x.parent = inN l x.ino) := by
    intro x hx hi
    have := h4' _ hx
    unfold fourthX at this
    rw [if_neg hi] at this
    simp only [Bool.and_eq_true, decide_eq_true_eq] at this
    refine ⟨this.2.1, fun hk => ?_⟩
    have h5 := this.2.2
    rw [if_pos hk] at h5
    simpa using h5
  refine ⟨hf.1.1, ?_, hr, hf.2.1.2, hf.2.2, fun x hx => List.all_eq_true.1 h2 x hx, fun x hx e he => List.all_eq_true.1 (List.all_eq_true.1 h3 x hx) e he, ?_, hr4.1, hr4.2, fun x hx hi => (h4n x hx hi).1, ?_, (fifth_iff hr hf.2.1.2 h3).1 h5, h6⟩
  · intro x hx
    have := List.all_eq_true.1 hf.1.2 x hx
    unfold inoB at this
    rwa [Bool.and_eq_true, decide_eq_true_eq, decide_eq_true_eq] at this
  · intro x hx
    have := h4' _ hx
    unfold fourthX at this
    rw [Bool.and_eq_true, decide_eq_true_eq] at this
    exact this.1
  · intro x hx hk hi
    obtain ⟨h7, h8⟩ := (h4n x hx hi).2 hk
    refine ⟨h7, ?_⟩
    obtain ⟨d, n, hd⟩ := named_by hr (show 0 < namesN l x.ino by omega)
    rw [h8, in_of h7 hd]
    exact ⟨n, hd⟩
theorem sound_check {mi mb nx : Int} {l : List Nd} (h : SoundP mi mb nx l) : checkN mi mb nx l = 0 := by
  have h3 : thirdB l = true := List.all_eq_true.2 fun x hx => List.all_eq_true.2 fun e he => h.there x hx e he
  refine check_zero.2 ⟨?_, List.all_eq_true.2 h.kind, h3, ?_, (fifth_iff h.rise h.root h3).2 h.reach, h.fits⟩
  · simp only [firstB, rootB, Bool.and_eq_true, beq_iff_eq]
    refine ⟨⟨h.lim, List.all_eq_true.2 fun x hx => ?_⟩, ⟨(riseN_iff l).2 h.rise, h.root⟩, h.rootDir⟩
    unfold inoB
    rw [Bool.and_eq_true, decide_eq_true_eq, decide_eq_true_eq]
    exact h.ino x hx
  · refine List.all_eq_true.2 fun x hx => ?_
    unfold fourthX
    rw [Bool.and_eq_true, decide_eq_true_eq]
    refine ⟨h.links x hx, ?_⟩
    by_cases hi : x.ino = 1
    · rw [if_pos hi, Bool.and_eq_true, decide_eq_true_eq, decide_eq_true_eq, hi]
      refine ⟨h.noRoot, ?_⟩
      have := (getN_of h.rise hx).1
      rw [hi] at this
      rw [← this]; exact h.rootPar
    · rw [if_neg hi, Bool.and_eq_true, decide_eq_true_eq]
      refine ⟨h.named x hx hi, ?_⟩
      by_cases hk : x.kind = 2
      · rw [if_pos hk, Bool.and_eq_true, decide_eq_true_eq, decide_eq_true_eq]
        obtain ⟨h7, n, hn⟩ := h.once x hx hk hi
        exact ⟨h7, (in_of h7 hn).symm⟩
      · rw [if_neg hk]
theorem ok_sound {mi mb nx : Int} {l : List Nd} (h : okB mi mb nx l = true) : SoundP mi mb nx l := by
  unfold okB at h
  rw [Bool.and_eq_true, decide_eq_true_eq] at h
  exact sound_of h.2
theorem SoundP.tree {mi mb nx : Int} {l : List Nd} (h : SoundP mi mb nx l) : Tree l := by
  have h2 : ∀ x ∈ l, x.kind ≠ 2 → x.ents = [] := by
    intro x hx hk
    have := h.kind x hx
    unfold secondX at this
    rw [if_neg hk] at this
    split at this
    · simp only [Bool.and_eq_true, List.isEmpty_iff] at this; exact this.1
    · split at this
      · simp only [Bool.and_eq_true, List.isEmpty_iff] at this; exact this.1.1.1.1
      · cases this
  have h3 : thirdB l = true := List.all_eq_true.2 fun x hx => List.all_eq_true.2 fun e he => h.there x hx e he
  refine ⟨h.rise, h.root, h.rootDir, h2, ?_, h.there, h.noRoot, fun x hx hk hi => (h.once x hx hk hi).1, ?_, by simpa [fifthB] using (fifth_iff h.rise h.root h3).2 h.reach⟩
  · intro x hx hk
    have := h.kind x hx
    unfold secondX at this
    rw [if_pos hk, Bool.and_eq_true] at this
    exact this.2
  · intro x hx hk hi
    obtain ⟨h7, n, hn⟩ := h.once x hx hk hi
    exact (in_of h7 hn).symm
theorem mem_with {es : List Ent} {n : List UInt8} {i : Int} {e : Ent} : e ∈ withB es n i ↔ e = (n, i) ∨ (e ∈ es ∧ e.1 ≠ n) := by
  simp only [withB, aheadB, behindB, List.mem_append, List.mem_cons, List.mem_filter]
  constructor
  · rintro (h | h | h)
    · exact .inr ⟨h.1, lt_ne h.2⟩
    · exact .inl h
    · exact .inr ⟨h.1, (lt_ne h.2).symm⟩
  · rintro (h | ⟨h, h2⟩)
    · exact .inr (.inl h)
    · cases h3 : ltB e.1 n
      · cases h4 : ltB n e.1
        · exact absurd (lt_tri _ _ h3 h4) h2
        · exact .inr (.inr ⟨h, rfl⟩)
      · exact .inl ⟨h, rfl⟩
theorem mem_without {es : List Ent} {n : List UInt8} {e : Ent} : e ∈ withoutB es n ↔ e ∈ es ∧ e.1 ≠ n := by
  simp only [withoutB, aheadB, behindB, List.mem_append, List.mem_filter]
  constructor
  · rintro (h | h)
    · exact ⟨h.1, lt_ne h.2⟩
    · exact ⟨h.1, (lt_ne h.2).symm⟩
  · rintro ⟨h, h2⟩
    cases h3 : ltB e.1 n
    · cases h4 : ltB n e.1
      · exact absurd (lt_tri _ _ h3 h4) h2
      · exact .inr ⟨h, rfl⟩
    · exact .inl ⟨h, rfl⟩
theorem with_perm (es : List Ent) (n : List UInt8) (i : Int) : (withB es n i).Perm ((n, i) :: withoutB es n) := by
  unfold withB withoutB
  exact List.perm_middle
theorem without_none {es : List Ent} {n : List UInt8} (hs : sortP es) (h : hasB es n = false) : withoutB es n = es := by
  rw [← without_eq n hs]
  refine filter_all fun e he => ?_
  have := (List.any_eq_false.1 h) e he
  simpa [bne] using this
theorem without_perm {es : List Ent} {n : List UInt8} {i : Int} (hs : sortP es) (h : (n, i) ∈ es) : es.Perm ((n, i) :: withoutB es n) := by
  have hp : es.Pairwise (fun a b => a.1 ≠ b.1) := hs.imp fun h => lt_ne h
  have h1 : withB (withoutB es n) n i = es := by
    have h2 : sortP (withB (withoutB es n) n i) := with_sort n i (without_sort n hs)
    refine List.Perm.eq_of_pairwise (le := fun a b => ltB a.1 b.1 = true ∨ a = b) ?_ ?_ ?_ ?_
    · intro a b _ _ h3 h4
      rcases h3 with h3 | h3
      · rcases h4 with h4 | h4
        · rw [lt_asym h3] at h4; cases h4
        · exact h4.symm
      · exact h3
    · exact h2.imp fun h => .inl h
    · exact hs.imp fun h => .inl h
    · refine (List.perm_ext_iff_of_nodup ?_ ?_).2 fun e => ?_
      · exact (h2.imp (S := fun a b : Ent => a ≠ b) fun h e => by rw [e, lt_irrefl] at h; cases h)
      · exact (hs.imp (S := fun a b : Ent => a ≠ b) fun h e => by rw [e, lt_irrefl] at h; cases h)
      · rw [mem_with, mem_without]
        constructor
        · rintro (rfl | h3)
          · exact h
          · exact h3.1.1
        · intro he
          by_cases h3 : e.1 = n
          · left
            have e1 := (num_mem hp he).1
            have e2 := (num_mem hp h).1
            rw [h3] at e1
            exact Prod.ext h3 (e1.symm.trans e2)
          · exact .inr ⟨⟨he, h3⟩, h3⟩
  have h2 := with_perm (withoutB es n) n i
  rw [h1, without_none (without_sort n hs) (by
    unfold hasB; rw [List.any_eq_false]; intro e he; simpa using (mem_without.1 he).2)] at h2
  exact h2
theorem num_with {es : List Ent} (hs : sortP es) (n : List UInt8) (i : Int) (m : List UInt8) : numB (withB es n i) m = (if m = n then i else numB es m) ∧ hasB (withB es n i) m = (decide (m = n) || hasB es m) := by
  have hp := fun {es : List Ent} (h : sortP es) => (h.imp (S := fun a b : Ent => a.1 ≠ b.1) fun h => lt_ne h)
  have hw := hp (with_sort n i hs)
  by_cases hm : m = n
  · have := num_mem hw (mem_with.2 (.inl rfl) : ((n, i) : Ent) ∈ _)
    rw [hm, if_pos rfl]
    exact ⟨this.1, by rw [this.2]; simp⟩
  · rw [if_neg hm, decide_eq_false hm, Bool.false_or]
    cases hh : hasB es m
    · have h2 : hasB (withB es n i) m = false := by
        unfold hasB; rw [List.any_eq_false]
        intro e he
        rcases mem_with.1 he with rfl | h3
        · simpa using fun h => hm h.symm
        · exact (List.any_eq_false.1 hh) e h3.1
      exact ⟨by rw [(find_none h2).1, (find_none hh).1], h2⟩
    · have h3 := hh
      unfold hasB at h3
      rw [List.any_eq_true] at h3
      obtain ⟨e, he, h4⟩ := h3
      have h5 : e.1 = m := by simpa using h4
      have a1 := num_mem (hp hs) he
      have a2 := num_mem hw (mem_with.2 (.inr ⟨he, by rw [h5]; exact hm⟩))
      rw [h5] at a1 a2
      exact ⟨a2.1.trans a1.1.symm, a2.2⟩
theorem num_without {es : List Ent} (hs : sortP es) (n m : List UInt8) : numB (withoutB es n) m = (if m = n then 0 else numB es m) ∧ hasB (withoutB es n) m = (decide (m ≠ n) && hasB es m) := by
  have hp := fun {es : List Ent} (h : sortP es) => (h.imp (S := fun a b : Ent => a.1 ≠ b.1) fun h => lt_ne h)
  have hw := hp (without_sort n hs)
  by_cases hm : m = n
  · rw [hm, if_pos rfl]
    have h2 : hasB (withoutB es n) n = false := by
      unfold hasB; rw [List.any_eq_false]; intro e he; simpa using (mem_without.1 he).2
    exact ⟨(find_none h2).1, by rw [h2]; simp⟩
  · rw [if_neg hm, decide_eq_true hm, Bool.true_and]
    cases hh : hasB es m
    · have h2 : hasB (withoutB es n) m = false := by
        unfold hasB; rw [List.any_eq_false]
        intro e he
        exact (List.any_eq_false.1 hh) e (mem_without.1 he).1
      exact ⟨by rw [(find_none h2).1, (find_none hh).1], h2⟩
    · have h3 := hh
      unfold hasB at h3
      rw [List.any_eq_true] at h3
      obtain ⟨e, he, h4⟩ := h3
      have h5 : e.1 = m := by simpa using h4
      have a1 := num_mem (hp hs) he
      have a2 := num_mem hw (mem_without.2 ⟨he, by rw [h5]; exact hm⟩)
      rw [h5] at a1 a2
      exact ⟨a2.1.trans a1.1.symm, a2.2⟩
end Go.Proofs.YtkdmfeikikmiiaaGreat
namespace Go.Proofs.YtkdmfeikikmiiaaGreat
/-- A directory with one entry more. -/
def moreD (x : Nd) (n : List UInt8) (i : Int) (ev : Go.Value) : Nd := { x with ents := withB x.ents n i, ev := ev }
def newL (l : List Nd) (d : Int) (n : List UInt8) (ev : Go.Value) (x : Nd) : List Nd := setN (setN l (moreD (getN l d) n x.ino ev)) x
/-- What the place and the leaf must be. -/
structure Leaf (l : List Nd) (nx : Int) (d : Int) (n : List UInt8) (x : Nd) : Prop where
  dir : isDir l d = true
  gone : hasB (getN l d).ents n = false
  may : mayB n = true
  ino : x.ino = nx
  links : x.links = 1
  ents : x.ents = []
  kind : secondX x = true
  par : x.kind = 2 → x.parent = d
theorem more_cnt {x : Nd} {n : List UInt8} {i : Int} {ev : Go.Value} (hs : sortP x.ents) (h : hasB x.ents n = false) (j : Int) : cntE j (moreD x n i ev) = cntE j x + if i = j then 1 else 0 := by
  unfold cntE moreD
  have := ((with_perm x.ents n i).map (·.2)).count_eq j
  rw [show ({ x with ents := withB x.ents n i, ev := ev } : Nd).ents = withB x.ents n i from rfl, this, without_none hs h, List.map_cons, List.count_cons]
  by_cases hij : i = j
  · rw [if_pos hij, if_pos (by simpa using hij)]
  · rw [if_neg hij, if_neg (by simpa using hij)]
theorem fresh {mi mb nx : Int} {l : List Nd} (h : SoundP mi mb nx l) : hasN l nx = false := by
  cases hh : hasN l nx
  · rfl
  · have hm := get_mem hh
    have := (h.ino _ hm.1).2
    rw [hm.2] at this; omega
theorem dir_sort {mi mb nx : Int} {l : List Nd} (h : SoundP mi mb nx l) (i : Int) : sortP (getN l i).ents := by
  cases hh : hasN l i
  · rw [getN_none hh]; exact List.Pairwise.nil
  · have hm := (get_mem hh).1
    by_cases hk : (getN l i).kind = 2
    · exact ((rightB_iff _).1 (h.tree.rights _ hm hk)).2
    · rw [h.tree.files _ hm hk]; exact List.Pairwise.nil
section
variable {mi mb nx : Int} {l : List Nd} {d : Int} {n : List UInt8} {ev : Go.Value} {x : Nd}
theorem more_ino (l : List Nd) (hd : hasN l d = true) (i : Int) : (moreD (getN l d) n i ev).ino = d := (get_mem hd).2
theorem new_get (h : SoundP mi mb nx l) (hl : Leaf l nx d n x) (i : Int) : getN (newL l d n ev x) i = if i = nx then x else if i = d then moreD (getN l d) n nx ev else getN l i := by
  have hd := (dir_parts hl.dir).1
  unfold newL
  rw [get_set (set_rise _ h.rise), get_set h.rise, more_ino l hd, hl.ino]
theorem new_has (h : SoundP mi mb nx l) (hl : Leaf l nx d n x) (i : Int) : hasN (newL l d n ev x) i = (decide (i = nx) || hasN l i) := by
  have hd := (dir_parts hl.dir).1
  unfold newL
  rw [has_set, has_set, more_ino l hd, hl.ino]
  by_cases h1 : i = d
  · rw [h1, hd]; simp
  · rw [decide_eq_false h1, Bool.false_or]
theorem new_rise (h : SoundP mi mb nx l) : riseP (newL l d n ev x) := set_rise _ (set_rise _ h.rise)
theorem dir_fresh (h : SoundP mi mb nx l) (hl : Leaf l nx d n x) : d ≠ nx := by
  intro e
  have := (dir_parts hl.dir).1
  rw [e, fresh h] at this; cases this
theorem new_names (h : SoundP mi mb nx l) (hl : Leaf l nx d n x) (j : Int) : namesN (newL l d n ev x) j = namesN l j + if nx = j then 1 else 0 := by
  have hd := (dir_parts hl.dir).1
  have h1 := names_set (set_rise (moreD (getN l d) n x.ino ev) h.rise) x j
  have h2 := names_set h.rise (moreD (getN l d) n x.ino ev) j
  rw [get_set h.rise, more_ino l hd, hl.ino, if_neg (fun e => dir_fresh h hl e.symm), getN_none (fresh h)] at h1
  rw [more_ino l hd, more_cnt (dir_sort h d) hl.gone, hl.ino] at h2
  have h3 : cntE j x = 0 := by unfold cntE; rw [hl.ents]; rfl
  have h4 : cntE j zeroN = 0 := rfl
  unfold newL
  rw [hl.ino]
  omega
theorem names_fresh (h : SoundP mi mb nx l) : namesN l nx = 0 := by
  refine Decidable.byContradiction fun hn => ?_
  obtain ⟨d, n, hd⟩ := named_by h.rise (show 0 < namesN l nx by omega)
  have := h.there _ (get_mem (ents_has hd)).1 _ hd
  rw [fresh h] at this; cases this
theorem new_mem (h : SoundP mi mb nx l) (hl : Leaf l nx d n x) {y : Nd} (hy : y ∈ newL l d n ev x) : y = x ∨ y = moreD (getN l d) n nx ev ∨ (y ∈ l ∧ y.ino ≠ d ∧ y.ino ≠ nx) := by
  have hd := (dir_parts hl.dir).1
  unfold newL at hy
  rw [hl.ino] at hy
  rcases mem_set.1 hy with e | ⟨hy, h1⟩
  · exact .inl e
  · rcases mem_set.1 hy with e | ⟨hy, h2⟩
    · exact .inr (.inl e)
    · rw [more_ino l hd] at h2
      rw [hl.ino] at h1
      exact .inr (.inr ⟨hy, h2, h1⟩)
theorem new_reach (h : SoundP mi mb nx l) (hl : Leaf l nx d n x) {i : Int} (hi : Reach l i) : Reach (newL l d n ev x) i := by
  induction hi with
  | root => exact .root
  | step _ he ih =>
    rename_i i e _
    refine .step ih ?_
    rw [new_get h hl]
    have hh := ents_has he
    rw [if_neg (by intro e2; rw [e2, fresh h] at hh; cases hh)]
    split
    · rename_i e2
      rw [e2] at he
      refine mem_with.2 (.inr ⟨he, fun e3 => ?_⟩)
      have := hl.gone
      unfold hasB at this
      rw [List.any_eq_false] at this
      exact this e he (by simpa using e3)
    · exact he
theorem new_sound (h : SoundP mi mb nx l) (hl : Leaf l nx d n x) (hn : nx < 1099511627776) (hf : fitsB mi mb l 1 (costN x) = true) : SoundP mi mb (nx + 1) (newL l d n ev x) := by
  obtain ⟨hd, hk⟩ := dir_parts hl.dir
  have hdm := get_mem hd
  have hroot := get_mem h.root
  have hfr := fresh h
  have h1n : (1 : Int) ≠ nx := by intro e; rw [← e, h.root] at hfr; cases hfr
  have hdn := dir_fresh h hl
  have hposn : 0 < nx := by have := (h.ino _ hroot.1); rw [hroot.2] at this; omega
  have hnm := fun j => new_names (ev := ev) h hl j
  have hget := fun i => new_get (ev := ev) h hl i
  have hhas := fun i => new_has (ev := ev) h hl i
  have hold : ∀ y, y ∈ l → y.ino ≠ nx := fun y hy e => by have := (h.ino y hy).2; omega
  have hkeep : ∀ {i : Int} {e : Ent}, e ∈ (getN l i).ents → e ∈ (getN (newL l d n ev x) i).ents := by
    intro i e he
    have hh := ents_has he
    rw [hget, if_neg (by intro e2; rw [e2, hfr] at hh; cases hh)]
    split
    · rename_i e2
      rw [e2] at he
      refine mem_with.2 (.inr ⟨he, fun e3 => ?_⟩)
      have := hl.gone
      unfold hasB at this
      rw [List.any_eq_false] at this
      exact this e he (by simpa using e3)
    · exact he
  have hroot1 : getN (newL l d n ev x) 1 = if 1 = d then moreD (getN l d) n nx ev else getN l 1 := by rw [hget, if_neg h1n]
  refine ⟨?_, ?_, new_rise h, by rw [hhas, h.root]; simp, ?_, ?_, ?_, ?_, by rw [hnm, h.noRoot, if_neg (fun e => h1n e.symm)], ?_, ?_, ?_, ?_, ?_⟩
  · have := h.lim
    unfold limB at this ⊢
    simp only [Bool.and_eq_true, decide_eq_true_eq] at this ⊢
    omega
  · intro y hy
    rcases new_mem h hl hy with rfl | rfl | hy
    · rw [hl.ino]; omega
    · have := h.ino _ hdm.1
      show 1 ≤ (getN l d).ino ∧ (getN l d).ino < nx + 1
      omega
    · have := h.ino _ hy.1; omega
  · rw [hroot1]
    split
    · exact hk
    · exact h.rootDir
  · intro y hy
    rcases new_mem h hl hy with rfl | rfl | hy
    · exact hl.kind
    · have := h.kind _ hdm.1
      unfold secondX at this ⊢
      rw [if_pos hk, Bool.and_eq_true] at this
      rw [if_pos (show (moreD (getN l d) n nx ev).kind = 2 from hk), Bool.and_eq_true]
      exact ⟨this.1, (rightB_iff _).2 (with_right ((rightB_iff _).1 this.2) (by unfold goodE; rw [hl.may, decide_eq_true hposn]; rfl))⟩
    · exact h.kind y hy.1
  · intro y hy e he
    rw [hhas]
    rcases new_mem h hl hy with rfl | rfl | hy
    · rw [hl.ents] at he; cases he
    · rcases mem_with.1 he with rfl | he
      · simp
      · rw [h.there _ hdm.1 e he.1]; simp
    · rw [h.there _ hy.1 e he]; simp
  · intro y hy
    rw [hnm]
    rcases new_mem h hl hy with rfl | rfl | hy
    · rw [hl.links, hl.ino, if_pos rfl, names_fresh h]; rfl
    · rw [if_neg (by show nx ≠ (getN l d).ino; rw [hdm.2]; exact fun e => hdn e.symm)]
      exact h.links (getN l d) hdm.1
    · rw [if_neg (fun e => hy.2.2 e.symm)]
      exact h.links _ hy.1
  · rw [hroot1]
    split
    · rename_i e
      show (getN l d).parent = 1
      rw [← e]; exact h.rootPar
    · exact h.rootPar
  · intro y hy hi
    rw [hnm]
    rcases new_mem h hl hy with rfl | rfl | hy
    · rw [hl.ino, if_pos rfl]; omega
    · have := h.named _ hdm.1 hi
      show 1 ≤ namesN l (getN l d).ino + _
      omega
    · have := h.named _ hy.1 hi; omega
  · intro y hy hky hi
    rw [hnm]
    rcases new_mem h hl hy with rfl | rfl | hy
    · rw [hl.ino, if_pos rfl, names_fresh h]
      refine ⟨rfl, n, ?_⟩
      rw [hl.par hky, hget, if_neg hdn, if_pos rfl]
      exact mem_with.2 (.inl rfl)
    · obtain ⟨h7, m, hm⟩ := h.once _ hdm.1 hk hi
      rw [if_neg (by show nx ≠ (getN l d).ino; rw [hdm.2]; exact fun e => hdn e.symm)]
      exact ⟨h7, m, hkeep hm⟩
    · obtain ⟨h7, m, hm⟩ := h.once _ hy.1 hky hi
      rw [if_neg (fun e => hy.2.2 e.symm)]
      exact ⟨h7, m, hkeep hm⟩
  · intro y hy
    rcases new_mem h hl hy with rfl | rfl | hy
    · have h8 : Reach (newL l d n ev y) d := new_reach h hl (by have := h.reach _ hdm.1; rwa [hdm.2] at this)
      have : ((n, nx) : Ent) ∈ (getN (newL l d n ev y) d).ents := by rw [hget, if_neg hdn, if_pos rfl]; exact mem_with.2 (.inl rfl)
      rw [hl.ino]
      exact .step h8 this
    · exact new_reach h hl (h.reach (getN l d) hdm.1)
    · exact new_reach h hl (h.reach _ hy.1)
  · unfold fitsB at hf ⊢
    simp only [Bool.and_eq_true, decide_eq_true_eq] at hf ⊢
    have h9 : (newL l d n ev x).length = l.length + 1 := by
      unfold newL
      rw [len_set_new (set_rise _ h.rise), len_set_has h.rise]
      · rw [more_ino l hd]; exact hd
      · rw [has_set, more_ino l hd, hl.ino, hfr, decide_eq_false (fun e => hdn e.symm)]; rfl
    have h10 : bytesN (newL l d n ev x) = bytesN l + costN x := by
      have a1 := bytes_set (set_rise (moreD (getN l d) n x.ino ev) h.rise) x
      have a2 := bytes_set h.rise (moreD (getN l d) n x.ino ev)
      rw [get_set h.rise, more_ino l hd, hl.ino, if_neg (fun e => hdn e.symm), getN_none hfr] at a1
      rw [more_ino l hd] at a2
      have a3 : costN (moreD (getN l d) n x.ino ev) = costN (getN l d) := rfl
      have a4 : costN zeroN = 0 := rfl
      unfold newL
      rw [hl.ino] at a2 a3 ⊢
      omega
    rw [h9, h10]
    omega
end
end Go.Proofs.YtkdmfeikikmiiaaGreat
namespace Go.Proofs.YtkdmfeikikmiiaaGreat
theorem has_num {l : List Nd} (t : Tree l) {i : Int} {n : List UInt8} (h : hasB (getN l i).ents n = true) : (n, numB (getN l i).ents n) ∈ (getN l i).ents ∧ numB (getN l i).ents n ≠ 0 := by
  unfold hasB at h
  rw [List.any_eq_true] at h
  obtain ⟨e, he, h2⟩ := h
  have e1 : e.1 = n := by simpa using h2
  have e2 := (num_mem (ents_pair t i) he).1
  have e3 := ent_pos t e he
  rw [e1] at e2
  rw [e2]
  refine ⟨?_, by omega⟩
  rw [← e1]; exact he
/-- A place to which a path led. -/
structure Spot (l : List Nd) (s : Sp) : Prop where
  bare : s.name = [] → isDir l s.ino = true ∧ s.dir = 0
  entry : s.name ≠ [] → isDir l s.dir = true ∧ numB (getN l s.dir).ents s.name = s.ino ∧ hasB (getN l s.dir).ents s.name = decide (s.ino ≠ 0)
def Led (l : List Nd) (r : Sp × Int) : Prop := (r.2 = 0 → Spot l r.1) ∧ (r.2 ≠ 0 → r.1 = zeroS)
theorem led_bad {l : List Nd} {e : Int} (h : e ≠ 0) : Led l (zeroS, e) := ⟨fun h2 => absurd h2 h, fun _ => rfl⟩
theorem spot_bare {l : List Nd} {i : Int} (h : isDir l i = true) : Spot l ⟨0, [], i⟩ := ⟨fun _ => ⟨h, rfl⟩, fun h => absurd rfl h⟩
theorem step_spot {l : List Nd} (t : Tree l) {i : Int} {n : List UInt8} (hd : isDir l i = true) (hn : n ≠ []) : Spot l (stepS l i n) := by
  have hm := get_mem (dir_parts hd).1
  refine ⟨fun h => absurd h hn, fun _ => ?_⟩
  have e : (stepS l i n).dir = i := hm.2
  rw [e]
  refine ⟨hd, rfl, ?_⟩
  show hasB (getN l i).ents n = decide (numB (getN l i).ents n ≠ 0)
  cases hb : hasB (getN l i).ents n
  · rw [(find_none hb).1]; rfl
  · rw [decide_eq_true (has_num t hb).2]
theorem par_dir {mi mb nx : Int} {l : List Nd} (h : SoundP mi mb nx l) {i : Int} (hd : isDir l i = true) : isDir l (getN l i).parent = true := by
  obtain ⟨hh, hk⟩ := dir_parts hd
  have hm := get_mem hh
  by_cases h1 : i = 1
  · subst h1; rw [h.rootPar]; exact hd
  · obtain ⟨_, n, hn⟩ := h.once _ hm.1 hk (by rw [hm.2]; exact h1)
    have := ent_dir h.tree hn
    exact dir_mk this.2 this.1
theorem zero_not {mi mb nx : Int} {l : List Nd} (h : SoundP mi mb nx l) : hasN l 0 = false := by
  cases hh : hasN l 0
  · rfl
  · have hm := get_mem hh
    have := (h.ino _ hm.1).1
    rw [hm.2] at this; omega
theorem has_ne0 {mi mb nx : Int} {l : List Nd} (h : SoundP mi mb nx l) {i : Int} (hi : hasN l i = true) : i ≠ 0 := by
  intro e; rw [e, zero_not h] at hi; cases hi
theorem on_spot {mi mb nx : Int} {l : List Nd} (h : SoundP mi mb nx l) (fo : Bool) (g : Nat) (s : Sp) (todo : List (List UInt8)) (dir : Bool) (hs : Spot l s) (hn : ∀ n ∈ todo, n ≠ []) : Led l (onN l fo g s todo dir) := by
  match todo with
  | [] =>
    rw [on_nil]
    split
    · exact led_bad (by decide)
    · exact ⟨fun _ => hs, fun h => absurd rfl h⟩
  | n :: r =>
    have hn1 := hn n (by simp)
    have hnr : ∀ m ∈ r, m ≠ [] := fun m hm => hn m (by simp [hm])
    by_cases h0 : s.ino = 0
    · rw [on_gone h0]; exact led_bad (by decide)
    by_cases hk : (getN l s.ino).kind = 2
    · have hd := kind_has hk
      have hm := get_mem (dir_parts hd).1
      by_cases d1 : n = [46]
      · rw [on_dot h0 hk d1]
        exact on_spot h fo g _ r dir (spot_bare (by rw [hm.2]; exact hd)) hnr
      by_cases d2 : n = [46, 46]
      · rw [on_dots h0 hk d2]
        exact on_spot h fo g _ r dir (spot_bare (par_dir h hd)) hnr
      cases hst : stopB l fo dir s.ino n r
      · match g with
        | 0 => rw [on_loop h0 hk d1 d2 hst]; exact led_bad (by decide)
        | g + 1 =>
          cases hlo : longB (lnkD l s.ino n)
          · rw [on_link h0 hk d1 d2 hst hlo]
            refine on_spot h fo g _ _ _ (spot_bare ?_) ?_
            · split
              · exact kind_has h.rootDir
              · rw [hm.2]; exact hd
            · intro m hm2
              rcases List.mem_append.1 hm2 with hm2 | hm2
              · exact (namesB_good _ m hm2).2
              · exact hnr m hm2
          · rw [on_long h0 hk d1 d2 hst hlo]; exact led_bad (by decide)
      · rw [on_stop h0 hk d1 d2 hst]
        exact on_spot h fo g _ r dir (step_spot h.tree hd hn1) hnr
    · rw [on_file h0 hk]; exact led_bad (by decide)
termination_by (g, todo.length)
theorem seek_spot {mi mb nx : Int} {l : List Nd} (h : SoundP mi mb nx l) (base p : List UInt8) (fo : Bool) : Led l (seekP l base p fo) := by
  have hg : ∀ n ∈ namesB p, n ≠ [] := fun n hn => (namesB_good p n hn).2
  unfold seekP
  split
  · exact led_bad (by decide)
  split
  · exact led_bad (by decide)
  split
  · exact on_spot h _ _ _ _ _ (spot_bare (kind_has h.rootDir)) hg
  split
  · rename_i h1; exact led_bad h1
  · rename_i h1
    exact on_spot h _ _ _ _ _ (spot_bare (home_dir (by simpa using h1))) hg
section
variable {mi mb nx : Int} {l : List Nd} {d : Int} {n : List UInt8} {ev : Go.Value} {x : Nd}
/-- What an inode that was there is, when a leaf was put in. -/
theorem new_old (h : SoundP mi mb nx l) (hl : Leaf l nx d n x) {i : Int} (hi : hasN l i = true) : (getN (newL l d n ev x) i).ino = (getN l i).ino ∧ (getN (newL l d n ev x) i).kind = (getN l i).kind ∧ (getN (newL l d n ev x) i).parent = (getN l i).parent ∧ (getN (newL l d n ev x) i).data = (getN l i).data := by
  rw [new_get h hl, if_neg (by intro e; rw [e, fresh h] at hi; cases hi)]
  split
  · rename_i e; subst e; exact ⟨rfl, rfl, rfl, rfl⟩
  · exact ⟨rfl, rfl, rfl, rfl⟩
theorem new_num (h : SoundP mi mb nx l) (hl : Leaf l nx d n x) {i : Int} (hi : hasN l i = true) (m : List UInt8) (hne : ¬ (i = d ∧ m = n)) : numB (getN (newL l d n ev x) i).ents m = numB (getN l i).ents m ∧ hasB (getN (newL l d n ev x) i).ents m = hasB (getN l i).ents m := by
  rw [new_get h hl, if_neg (by intro e; rw [e, fresh h] at hi; cases hi)]
  split
  · rename_i e
    subst e
    have := num_with (dir_sort h i) n nx m
    have hmn : m ≠ n := fun e => hne ⟨rfl, e⟩
    rw [if_neg hmn, decide_eq_false hmn, Bool.false_or] at this
    exact this
  · exact ⟨rfl, rfl⟩
theorem new_num_eq (h : SoundP mi mb nx l) (hl : Leaf l nx d n x) : numB (getN (newL l d n ev x) d).ents n = nx ∧ hasB (getN (newL l d n ev x) d).ents n = true := by
  rw [new_get h hl, if_neg (dir_fresh h hl), if_pos rfl]
  have := num_with (dir_sort h d) n nx n
  rw [if_pos rfl] at this
  exact ⟨this.1, by rw [show (moreD (getN l d) n nx ev).ents = withB (getN l d).ents n nx from rfl, this.2]; simp⟩
/-- One entry more, that wasn't there: all else is as it was. -/
structure Grown (l l' : List Nd) (d : Int) (n : List UInt8) (j : Int) : Prop where
  gone : hasB (getN l d).ents n = false
  old : ∀ {i : Int}, hasN l i = true → (getN l' i).ino = (getN l i).ino ∧ (getN l' i).kind = (getN l i).kind ∧ (getN l' i).parent = (getN l i).parent ∧ (getN l' i).data = (getN l i).data
  has : ∀ {i : Int}, hasN l i = true → hasN l' i = true
  num : ∀ {i : Int}, hasN l i = true → ∀ m, ¬ (i = d ∧ m = n) → numB (getN l' i).ents m = numB (getN l i).ents m ∧ hasB (getN l' i).ents m = hasB (getN l i).ents m
  new : numB (getN l' d).ents n = j ∧ hasB (getN l' d).ents n = true
theorem grown_new (h : SoundP mi mb nx l) (hl : Leaf l nx d n x) : Grown l (newL l d n ev x) d n nx :=
  ⟨hl.gone, fun hi => new_old h hl hi, fun hi => by rw [new_has h hl, hi]; simp, fun hi m hne => new_num h hl hi m hne, new_num_eq h hl⟩
end
section
variable {mi mb nx : Int} {l l' : List Nd} {d : Int} {n : List UInt8} {j : Int}
theorem on_grown (h : SoundP mi mb nx l) (G : Grown l l' d n j) (fo : Bool) (g : Nat) (s : Sp) (todo : List (List UInt8)) (dir : Bool) (hs : s.ino ≠ 0) (hc : (getN l' j).kind = 2 ∨ (fo = false ∧ dir = false)) (hr : onN l fo g s todo dir = (⟨d, n, 0⟩, 0)) :
    onN l' fo g s todo dir = (⟨d, n, j⟩, 0) := by
  match todo with
  | [] =>
    rw [on_nil] at hr
    split at hr
    · cases hr
    · have := (Prod.mk.inj hr).1
      rw [this] at hs; exact absurd rfl hs
  | m :: r =>
    by_cases hk : (getN l s.ino).kind = 2
    · have hd := kind_has hk
      have hh := (dir_parts hd).1
      have hm := get_mem hh
      obtain ⟨o1, o2, o3, o4⟩ := G.old hh
      have hk' : (getN l' s.ino).kind = 2 := o2.trans hk
      by_cases d1 : m = [46]
      · rw [on_dot hs hk d1] at hr
        rw [on_dot hs hk' d1, o1]
        exact on_grown h G fo g _ r dir (by show (getN l s.ino).ino ≠ 0; rw [hm.2]; exact hs) hc hr
      by_cases d2 : m = [46, 46]
      · rw [on_dots hs hk d2] at hr
        rw [on_dots hs hk' d2, o3]
        exact on_grown h G fo g _ r dir (has_ne0 h (dir_parts (par_dir h hd)).1) hc hr
      by_cases hdn : s.ino = d ∧ m = n
      · obtain ⟨e1, e2⟩ := hdn
        have hstop : stopB l fo dir s.ino m r = true := by unfold stopB; rw [e1, e2, G.gone]; rfl
        rw [on_stop hs hk d1 d2 hstop] at hr
        have hz : (stepS l s.ino m).ino = 0 := by
          show numB (getN l s.ino).ents m = 0
          rw [e1, e2]; exact (find_none G.gone).1
        match r with
        | c :: r => rw [on_gone hz] at hr; cases hr
        | [] =>
          have hn' := G.new
          have hstop' : stopB l' fo dir s.ino m [] = true := by
            unfold stopB
            rw [e1, e2, hn'.1, hn'.2]
            rcases hc with hc | ⟨rfl, rfl⟩
            · rw [hc]; rfl
            · simp
          rw [on_stop hs hk' d1 d2 hstop', on_nil]
          have e3 : stepS l' s.ino m = ⟨d, n, j⟩ := by
            unfold stepS
            rw [o1, hm.2, e1, e2, hn'.1]
          rw [e3, if_neg]
          rcases hc with hc | ⟨rfl, rfl⟩
          · rw [hc]; simp
          · simp
      · have hn' := G.num hh m hdn
        have hst : stopB l' fo dir s.ino m r = stopB l fo dir s.ino m r := by
          unfold stopB
          rw [hn'.1, hn'.2]
          cases hb : hasB (getN l s.ino).ents m
          · rfl
          · have hj := h.there _ hm.1 _ (has_num h.tree hb).1
            rw [(G.old hj).2.1]
        have hstep : stepS l' s.ino m = stepS l s.ino m := by unfold stepS; rw [o1, hn'.1]
        cases hst1 : stopB l fo dir s.ino m r
        · match g with
          | 0 => rw [on_loop hs hk d1 d2 hst1] at hr; cases hr
          | g + 1 =>
            have hb : hasB (getN l s.ino).ents m = true := by
              unfold stopB at hst1
              cases hb : hasB (getN l s.ino).ents m
              · rw [hb] at hst1; cases hst1
              · rfl
            have hj := h.there _ hm.1 _ (has_num h.tree hb).1
            have hln : lnkD l' s.ino m = lnkD l s.ino m := by
              unfold lnkD
              rw [hn'.1]; exact (G.old hj).2.2.2
            cases hlo : longB (lnkD l s.ino m)
            · rw [on_link hs hk d1 d2 hst1 hlo] at hr
              rw [on_link hs hk' d1 d2 (hst.trans hst1) (by rw [hln]; exact hlo), hln, o1]
              refine on_grown h G fo g _ _ _ ?_ ?_ hr
              · show (if absB (lnkD l s.ino m) = true then (1 : Int) else (getN l s.ino).ino) ≠ 0
                split
                · decide
                · rw [hm.2]; exact hs
              · rcases hc with hc | ⟨rfl, rfl⟩
                · exact .inl hc
                · refine .inr ⟨rfl, ?_⟩
                  unfold stopB at hst1
                  cases hre : r.isEmpty
                  · simp
                  · rw [hre] at hst1; simp at hst1
            · rw [on_long hs hk d1 d2 hst1 hlo] at hr; cases hr
        · rw [on_stop hs hk d1 d2 hst1] at hr
          rw [on_stop hs hk' d1 d2 (hst.trans hst1), hstep]
          by_cases hz : (stepS l s.ino m).ino = 0
          · match r with
            | c :: r => rw [on_gone hz] at hr; cases hr
            | [] =>
              rw [on_nil] at hr
              split at hr
              · cases hr
              · exfalso
                have e := (Prod.mk.inj hr).1
                unfold stepS at e
                rw [hm.2] at e
                simp only [Sp.mk.injEq] at e
                exact hdn ⟨e.1, e.2.1⟩
          · exact on_grown h G fo g _ r dir hz hc hr
    · rw [on_file hs hk] at hr; cases hr
termination_by (g, todo.length)
theorem at_grown (h : SoundP mi mb nx l) (G : Grown l l' d n j) (r : List (List UInt8)) : ∀ (s t : Sp), s.ino ≠ 0 → t.ino ≠ 0 → atN l s r = (t, 0) → atN l' s r = (t, 0) := by
  induction r with
  | nil => intro s t _ _ h; exact h
  | cons m r ih =>
    intro s t hs ht hr
    by_cases hk : (getN l s.ino).kind = 2
    · have hd := kind_has hk
      have hh := (dir_parts hd).1
      obtain ⟨o1, o2, _, _⟩ := G.old hh
      rw [at_on hs hk] at hr
      rw [at_on hs (o2.trans hk)]
      have hz : (stepS l s.ino m).ino ≠ 0 := by
        intro e
        cases r with
        | nil => rw [show t = stepS l s.ino m from (Prod.mk.inj hr).1.symm] at ht; exact ht e
        | cons c r => rw [at_gone e] at hr; cases hr
      have hdn : ¬ (s.ino = d ∧ m = n) := by
        rintro ⟨e1, e2⟩
        apply hz
        show numB (getN l s.ino).ents m = 0
        rw [e1, e2]; exact (find_none G.gone).1
      have hstep : stepS l' s.ino m = stepS l s.ino m := by unfold stepS; rw [o1, (G.num hh m hdn).1]
      rw [hstep]
      exact ih _ _ hz ht hr
    · rw [at_file hs hk] at hr; cases hr
theorem home_grown (h : SoundP mi mb nx l) (G : Grown l l' d n j) {base : List UInt8} (he : (homeP l base).2 = 0) : homeP l' base = homeP l base := by
  have hd := home_dir he
  by_cases h1 : (getP l base).2 = 0
  · by_cases h2 : (getP l base).1.kind = 2
    · have ha : (atP l base).2 = 0 := by
        refine Decidable.byContradiction fun hn => ?_
        unfold getP at h1
        rw [if_pos hn] at h1; exact hn h1
      have hi : (atP l base).1.ino ≠ 0 := by
        intro hn
        unfold getP at h1
        rw [if_neg (by simp [ha]), if_pos hn] at h1; cases h1
      have hg : getP l base = (getN l (atP l base).1.ino, 0) := by
        unfold getP
        rw [if_neg (by simp [ha]), if_neg hi]
      have hp : atP l' base = atP l base := by
        unfold atP at ha hi ⊢
        cases hpl : plainB base with
        | none => rfl
        | some ns =>
          rw [hpl] at ha hi
          have e : atN l rootS ns = ((atN l rootS ns).1, 0) := Prod.ext rfl ha
          show atN l' rootS ns = atN l rootS ns
          rw [e]
          exact at_grown h G ns _ _ (by decide) hi e
      rw [hg] at h2
      have hh := (dir_parts (kind_has h2)).1
      obtain ⟨o1, o2, _, _⟩ := G.old hh
      have hg' : getP l' base = (getN l' (atP l base).1.ino, 0) := by
        unfold getP
        rw [hp, if_neg (by simp [ha]), if_neg hi]
      have h2' : (getN l' (atP l base).1.ino).kind = 2 := o2.trans h2
      have ea : homeP l' base = ((getN l' (atP l base).1.ino).ino, 0) := by
        unfold homeP
        rw [hg', if_neg (by simp), if_neg (by simp [h2'])]
      have eb : homeP l base = ((getN l (atP l base).1.ino).ino, 0) := by
        unfold homeP
        have h2b : (getN l (atP l base).1.ino).kind = 2 := h2
        rw [hg, if_neg (by simp), if_neg (by simp [h2b])]
      rw [ea, eb, o1]
    · unfold homeP at he
      rw [if_neg (by simp [h1]), if_pos h2] at he; cases he
  · unfold homeP at he
    rw [if_pos h1] at he; exact absurd he h1
/-- The path to which nothing led leads to the leaf. -/
theorem seek_grown (h : SoundP mi mb nx l) (G : Grown l l' d n j) {base p : List UInt8} (hc : (getN l' j).kind = 2 ∨ slashB p = false) (hr : seekP l base p false = (⟨d, n, 0⟩, 0)) : seekP l' base p false = (⟨d, n, j⟩, 0) := by
  have hc' : (getN l' j).kind = 2 ∨ (false = false ∧ slashB p = false) := hc.imp id fun h => ⟨rfl, h⟩
  unfold seekP at hr ⊢
  by_cases h0 : p = []
  · rw [if_pos h0] at hr; cases hr
  rw [if_neg h0] at hr ⊢
  by_cases h1 : longB p = true
  · rw [if_pos h1] at hr; cases hr
  rw [if_neg h1] at hr ⊢
  by_cases h2 : absB p = true
  · rw [if_pos h2] at hr ⊢
    exact on_grown h G false 40 _ _ _ (by decide) hc' hr
  rw [if_neg h2] at hr ⊢
  by_cases h3 : (homeP l base).2 ≠ 0
  · rw [if_pos h3] at hr
    have := (Prod.mk.inj hr).2
    exact absurd this h3
  have h4 : (homeP l base).2 = 0 := by simpa using h3
  rw [if_neg h3] at hr
  rw [home_grown h G h4, if_neg h3]
  exact on_grown h G false 40 _ _ _ (has_ne0 h (dir_parts (home_dir h4)).1) hc' hr
end
end Go.Proofs.YtkdmfeikikmiiaaGreat
namespace Go.Proofs.YtkdmfeikikmiiaaGreat
theorem flat_sub {α β : Type} {es : List α} {f g : α → List β} (h : ∀ e ∈ es, (f e).Sublist (g e)) : (es.flatMap f).Sublist (es.flatMap g) := by
  induction es with
  | nil => exact List.Sublist.slnil
  | cons e r ih =>
    rw [List.flatMap_cons, List.flatMap_cons]
    exact (h e (by simp)).append (ih fun x hx => h x (by simp [hx]))
section
variable {mi mb nx : Int} {l : List Nd} {d : Int} {n : List UInt8} {ev : Go.Value} {x : Nd}
theorem below_sub (h : SoundP mi mb nx l) (hl : Leaf l nx d n x) (D : Nat) : ∀ i p, hasN l i = true → (belowN l D i p).Sublist (belowN (newL l d n ev x) D i p) := by
  induction D with
  | zero => intro i p _; exact List.Sublist.slnil
  | succ D ih =>
    intro i p hi
    have hi' : hasN (newL l d n ev x) i = true := by rw [new_has h hl, hi]; simp
    show (if hasN l i = true then _ else _ : List Ent).Sublist (if hasN (newL l d n ev x) i = true then _ else _)
    rw [if_pos hi, if_pos hi']
    refine List.Sublist.cons_cons _ ?_
    have hkids : ∀ e ∈ (getN l i).ents, (belowN l D e.2 (underB p e.1)).Sublist (belowN (newL l d n ev x) D e.2 (underB p e.1)) := fun e he => ih _ _ (h.there _ (get_mem hi).1 e he)
    rw [new_get h hl i, if_neg (by intro e; rw [e, fresh h] at hi; cases hi)]
    split
    · rename_i e
      subst e
      have he : (getN l i).ents = aheadB (getN l i).ents n ++ behindB (getN l i).ents n := (without_none (dir_sort h i) hl.gone).symm
      have e2 : (moreD (getN l i) n nx ev).ents = aheadB (getN l i).ents n ++ (n, nx) :: behindB (getN l i).ents n := rfl
      have hin : ∀ e ∈ aheadB (getN l i).ents n ++ behindB (getN l i).ents n, e ∈ (getN l i).ents := fun e he2 => by rw [he]; exact he2
      rw [e2]
      conv => lhs; rw [he]
      rw [List.flatMap_append, List.flatMap_append, List.flatMap_cons]
      refine (flat_sub fun e he => hkids e (hin e (by simp [he]))).append ?_
      exact (flat_sub fun e he => hkids e (hin e (by simp [he]))).trans (List.sublist_append_right _ _)
    · exact flat_sub hkids
theorem new_len (h : SoundP mi mb nx l) (hl : Leaf l nx d n x) : (newL l d n ev x).length = l.length + 1 := by
  have hd := (dir_parts hl.dir).1
  have hdn := dir_fresh h hl
  unfold newL
  rw [len_set_new (set_rise _ h.rise), len_set_has h.rise]
  · rw [more_ino l hd]; exact hd
  · rw [has_set, more_ino l hd, hl.ino, fresh h, decide_eq_false (fun e => hdn e.symm)]; rfl
theorem new_ents (h : SoundP mi mb nx l) (hl : Leaf l nx d n x) : entsN (newL l d n ev x) = entsN l + 1 := by
  have hd := (dir_parts hl.dir).1
  have hdn := dir_fresh h hl
  have a1 := ents_set (set_rise (moreD (getN l d) n x.ino ev) h.rise) x
  have a2 := ents_set h.rise (moreD (getN l d) n x.ino ev)
  rw [get_set h.rise, more_ino l hd, hl.ino, if_neg (fun e => hdn e.symm), getN_none (fresh h)] at a1
  rw [more_ino l hd, hl.ino] at a2
  have a3 : (moreD (getN l d) n nx ev).ents.length = (getN l d).ents.length + 1 := by
    have := (with_perm (getN l d).ents n nx).length_eq
    rw [without_none (dir_sort h d) hl.gone] at this
    exact this
  have a4 : x.ents.length = 0 := by rw [hl.ents]; rfl
  have a5 : zeroN.ents.length = 0 := rfl
  unfold newL
  rw [hl.ino]
  omega
theorem list_new (h : SoundP mi mb nx l) (hl : Leaf l nx d n x) (hn : nx < 1099511627776) (hf : fitsB mi mb l 1 (costN x) = true) : (listN l).Sublist (listN (newL l d n ev x)) ∧ (listN (newL l d n ev x)).length = (listN l).length + 1 := by
  have t := h.tree
  have t' := (new_sound (ev := ev) h hl hn hf).tree
  constructor
  · unfold listN
    rw [new_len h hl, ← below_more t 1 [47] 1]
    exact below_sub h hl _ 1 [47] h.root
  · rw [list_exact t, list_exact t', new_ents h hl]; omega
end
end Go.Proofs.YtkdmfeikikmiiaaGreat
