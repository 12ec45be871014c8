/- The way on, told by the place to which a step leads. No program's function. -/
import Derived.Test.YtobepdmpacdakaaGreatQWalkG10
set_option linter.unusedVariables false
set_option linter.unusedSimpArgs false
namespace Go.Proofs.YtobepdmpacdakaaGreat

/-- Of a place: if it has a number, there is an inode of it. -/
def OnS (l : List Nd) (s : Sp) : Prop := s.ino ≠ 0 → hasN l s.ino = true
theorem onS_bare {l : List Nd} {i : Int} (h : isDir l i = true) : OnS l ⟨0, [], i⟩ := fun _ => (dir_parts h).1
theorem dir_num {mi mb nx : Int} {l : List Nd} (h : okB mi mb nx l = true) {i : Int} (hd : isDir l i = true) : i ≠ 0 ∧ (getN l i).kind = 2 ∧ (getN l i).ino = i := by
  refine ⟨fun e => ?_, (dir_parts hd).2, (get_mem (dir_parts hd).1).2⟩
  subst e
  have := (dir_parts hd).1
  rw [no_zero h] at this; cases this
theorem step_dot {l : List Nd} {x : Nd} : stepP x [46] = ⟨0, [], x.ino⟩ := rfl
theorem step_dots {l : List Nd} {x : Nd} : stepP x [46, 46] = ⟨0, [], x.parent⟩ := rfl
theorem step_name {x : Nd} {n : List UInt8} (h1 : n ≠ [46]) (h2 : n ≠ [46, 46]) : stepP x n = ⟨x.ino, n, numB x.ents n⟩ := by unfold stepP; rw [if_neg h1, if_neg h2]
theorem step_on {mi mb nx : Int} {l : List Nd} (h : okB mi mb nx l = true) {i : Int} (n : List UInt8) (hk : (getN l i).kind = 2) : OnS l (stepP (getN l i) n) := by
  have hd := kind_has hk
  by_cases h1 : n = [46]
  · subst h1; exact onS_bare (by rw [(dir_num h hd).2.2]; exact hd)
  by_cases h2 : n = [46, 46]
  · subst h2; exact onS_bare (parent_dir h hd)
  rw [step_name h1 h2]
  exact fun h3 => num_has (tree_of h) h3
/-- A step to what is a link, or to nothing, is no step by dots. -/
theorem step_else {mi mb nx : Int} {l : List Nd} (h : okB mi mb nx l = true) {i : Int} {n : List UInt8} (hk : (getN l i).kind = 2) (h2 : (getN l (stepP (getN l i) n).ino).kind ≠ 2) : n ≠ [46] ∧ n ≠ [46, 46] := by
  have hd := kind_has hk
  constructor
  · intro e
    subst e
    rw [show (stepP (getN l i) [46]).ino = (getN l i).ino from rfl, (dir_num h hd).2.2] at h2
    exact h2 hk
  · intro e
    subst e
    exact h2 (dir_parts (parent_dir h hd)).2
theorem lead_gone {mi mb nx : Int} {l : List Nd} (h : okB mi mb nx l = true) {fo d : Bool} {g : Nat} {s : Sp} {n : List UInt8} {r : List (List UInt8)} (h0 : s.ino ≠ 0) (hk : (getN l s.ino).kind = 2) (hz : (stepP (getN l s.ino) n).ino = 0) (hr : r ≠ []) :
    onN l fo g s (n :: r) d = (zeroS, 1) := by
  have hz2 : (getN l (stepP (getN l s.ino) n).ino).kind ≠ 2 := by rw [hz, getN_none (no_zero h)]; decide
  obtain ⟨d1, d2⟩ := step_else h hk hz2
  rw [step_name d1 d2] at hz
  obtain ⟨m, t, rfl⟩ := List.exists_cons_of_ne_nil hr
  rw [on_stop h0 hk d1 d2 ?_, on_gone (show (stepS l s.ino n).ino = 0 from hz)]
  unfold stopB
  have : (getN l (numB (getN l s.ino).ents n)).kind != 3 := by
    rw [show numB (getN l s.ino).ents n = 0 from hz, getN_none (no_zero h)]; decide
  rw [this]; simp
theorem lead_on {mi mb nx : Int} {l : List Nd} (h : okB mi mb nx l = true) {fo d : Bool} {g : Nat} {s : Sp} {n : List UInt8} {r : List (List UInt8)} (h0 : s.ino ≠ 0) (hk : (getN l s.ino).kind = 2)
    (hc : (getN l (stepP (getN l s.ino) n).ino).kind ≠ 3 ∨ (r = [] ∧ fo = false ∧ d = false)) :
    onN l fo g s (n :: r) d = onN l fo g (stepP (getN l s.ino) n) r d := by
  by_cases d1 : n = [46]
  · subst d1; exact on_dot h0 hk rfl
  by_cases d2 : n = [46, 46]
  · subst d2; exact on_dots h0 hk rfl
  rw [on_stop h0 hk d1 d2 ?_, step_name d1 d2]
  · rfl
  · unfold stopB
    rcases hc with hc | ⟨rfl, rfl, rfl⟩
    · rw [step_name d1 d2] at hc
      have : ((getN l (numB (getN l s.ino).ents n)).kind != 3) = true := by simpa using hc
      rw [this]; simp
    · simp
theorem stop_no {mi mb nx : Int} {l : List Nd} (h : okB mi mb nx l = true) {fo d : Bool} {s : Sp} {n : List UInt8} {r : List (List UInt8)} (hk : (getN l s.ino).kind = 2)
    (h3 : (getN l (stepP (getN l s.ino) n).ino).kind = 3) (hc : ¬ (r = [] ∧ fo = false ∧ d = false)) :
    n ≠ [46] ∧ n ≠ [46, 46] ∧ stopB l fo d s.ino n r = false ∧ lnkD l s.ino n = (getN l (stepP (getN l s.ino) n).ino).data := by
  obtain ⟨d1, d2⟩ := step_else (n := n) h hk (by rw [h3]; decide)
  refine ⟨d1, d2, ?_, ?_⟩
  · rw [step_name d1 d2] at h3
    dsimp only at h3
    have hb : hasB (getN l s.ino).ents n = true := by
      cases hb : hasB (getN l s.ino).ents n
      · rw [(find_none hb).1, getN_none (no_zero h)] at h3; cases h3
      · rfl
    unfold stopB
    rw [hb, h3]
    cases r <;> cases fo <;> cases d <;> simp_all
  · rw [step_name d1 d2]; rfl
theorem lead_loop {mi mb nx : Int} {l : List Nd} (h : okB mi mb nx l = true) {fo d : Bool} {s : Sp} {n : List UInt8} {r : List (List UInt8)} (h0 : s.ino ≠ 0) (hk : (getN l s.ino).kind = 2)
    (h3 : (getN l (stepP (getN l s.ino) n).ino).kind = 3) (hc : ¬ (r = [] ∧ fo = false ∧ d = false)) : onN l fo 0 s (n :: r) d = (zeroS, 6) := by
  obtain ⟨d1, d2, hs, _⟩ := stop_no h hk h3 hc
  exact on_loop h0 hk d1 d2 hs
theorem lead_long {mi mb nx : Int} {l : List Nd} (h : okB mi mb nx l = true) {fo d : Bool} {g : Nat} {s : Sp} {n : List UInt8} {r : List (List UInt8)} (h0 : s.ino ≠ 0) (hk : (getN l s.ino).kind = 2)
    (h3 : (getN l (stepP (getN l s.ino) n).ino).kind = 3) (hc : ¬ (r = [] ∧ fo = false ∧ d = false)) (hl : longB (getN l (stepP (getN l s.ino) n).ino).data = true) : onN l fo (g + 1) s (n :: r) d = (zeroS, 7) := by
  obtain ⟨d1, d2, hs, hd⟩ := stop_no h hk h3 hc
  exact on_long h0 hk d1 d2 hs (by rw [hd]; exact hl)
theorem lead_link {mi mb nx : Int} {l : List Nd} (h : okB mi mb nx l = true) {fo d : Bool} {g : Nat} {s : Sp} {n : List UInt8} {r : List (List UInt8)} (h0 : s.ino ≠ 0) (hk : (getN l s.ino).kind = 2)
    (h3 : (getN l (stepP (getN l s.ino) n).ino).kind = 3) (hc : ¬ (r = [] ∧ fo = false ∧ d = false)) (hl : longB (getN l (stepP (getN l s.ino) n).ino).data = false) :
    onN l fo (g + 1) s (n :: r) d = onN l fo g ⟨0, [], if absB (getN l (stepP (getN l s.ino) n).ino).data = true then 1 else (getN l s.ino).ino⟩ (namesB (getN l (stepP (getN l s.ino) n).ino).data ++ r) (d || (r.isEmpty && slashB (getN l (stepP (getN l s.ino) n).ino).data)) := by
  obtain ⟨d1, d2, hs, hd⟩ := stop_no h hk h3 hc
  rw [on_link h0 hk d1 d2 hs (by rw [hd]; exact hl), hd, Bool.and_comm (slashB _)]
theorem lead_end {mi mb nx : Int} {l : List Nd} (h : okB mi mb nx l = true) {fo d : Bool} {g : Nat} {s : Sp} (hs : OnS l s) : onN l fo g s [] d = endP s (getN l s.ino).kind d := by
  rw [on_nil]
  unfold endP
  by_cases h0 : s.ino = 0
  · rw [h0, no_zero h]; simp
  · rw [hs h0]
    by_cases hk : (getN l s.ino).kind = 2
    · rw [hk]; simp
    · cases d
      · simp
      · have e1 : (true && true && (getN l s.ino).kind != 2) = true := by simpa using hk
        have e2 : true = true ∧ s.ino ≠ 0 ∧ (getN l s.ino).kind ≠ 2 := ⟨rfl, h0, hk⟩
        rw [if_pos e1, if_pos e2]
/-- Where one stands behind a link. -/
theorem from_dir {mi mb nx : Int} {l : List Nd} (h : okB mi mb nx l = true) {i : Int} (hk : (getN l i).kind = 2) (b : Bool) : isDir l (if b = true then 1 else (getN l i).ino) = true := by
  cases b
  · rw [if_neg (by simp), (dir_num h (kind_has hk)).2.2]; exact kind_has hk
  · rw [if_pos rfl]; exact kind_has (tree_of h).rootDir
end Go.Proofs.YtobepdmpacdakaaGreat
