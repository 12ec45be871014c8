/- Plain functions on lists of bytes: what follows for forms and lines. No walk, no program. -/
import Derived.Test.YthhnkakobjbdlaaPure01e
set_option linter.unusedVariables false
set_option linter.unusedSimpArgs false
namespace Go.Proofs.Ythhnkakobjbdlaa

/-- A byte that is a sign or a blank. -/
def signB (c : UInt8) : Bool := decide (32 ≤ c.toNat) && decide (c.toNat ≤ 126)
theorem hexD_sign_all : ∀ n : Fin 16, signB (hexD n.val) = true := by decide
theorem formB_sign (b : UInt8) : ∀ c ∈ formB b, signB c = true := by
  intro c hc
  cases hb : bareB b
  · rw [formB_hex hb] at hc
    have h1 := hexD_sign_all ⟨b.toNat / 16, by have := b.toNat_lt; omega⟩
    have h2 := hexD_sign_all ⟨b.toNat % 16, by omega⟩
    simp at hc
    rcases hc with rfl | rfl | rfl | rfl
    · decide
    · decide
    · exact h1
    · exact h2
  · rw [formB_bare hb] at hc
    simp at hc
    subst hc
    simp only [bareB, Bool.and_eq_true] at hb
    simp only [signB, Bool.and_eq_true]
    exact hb.1.1
theorem quoteB_sign (l : List UInt8) : ∀ c ∈ quoteB l, signB c = true := by
  intro c hc
  simp only [quoteB, List.mem_cons, List.mem_append, List.not_mem_nil, or_false] at hc
  rcases hc with rfl | h | rfl
  · decide
  · obtain ⟨b, _, hb⟩ := List.mem_flatMap.1 h
    exact formB_sign b c hb
  · decide

theorem formB_no34 (b : UInt8) : ∀ c ∈ formB b, ¬ c = 34 := by
  intro c hc
  cases hb : bareB b
  · rw [formB_hex hb] at hc
    have hh : ∀ n : Fin 16, ¬ hexD n.val = 34 := by decide
    have h1 := hh ⟨b.toNat / 16, by have := b.toNat_lt; omega⟩
    have h2 := hh ⟨b.toNat % 16, by omega⟩
    simp at hc
    rcases hc with rfl | rfl | rfl | rfl
    · decide
    · decide
    · exact h1
    · exact h2
  · rw [formB_bare hb] at hc
    simp at hc
    subst hc
    rintro rfl
    exact absurd hb (by decide)
theorem formsB_no34 (x : List UInt8) : ∀ c ∈ formsB x, ¬ c = 34 := by
  intro c hc
  obtain ⟨b, _, hb⟩ := List.mem_flatMap.1 hc
  exact formB_no34 b c hb

/-- A piece that no cut goes through, from outside to outside. -/
def Piece (p : List UInt8) : Prop := ∀ r, cutF false (p ++ r) = consHead p (cutF false r)

theorem piece_nil : Piece [] := fun r => by simp [consHead_nil _ (cutF_ne _ _)]
theorem cut_plain : ∀ (p r : List UInt8), (∀ c ∈ p, ¬ c = 34 ∧ ¬ c = 32) → cutF false (p ++ r) = consHead p (cutF false r)
  | [], r, _ => by simp [consHead_nil _ (cutF_ne _ _)]
  | c :: p, r, h => by
    have hc := h c (by simp)
    rw [List.cons_append, cutF, if_neg (fun e => hc.2 e.1), if_neg hc.1, cut_plain p r (fun d hd => h d (by simp [hd])), ← consHead_append]
    rfl
theorem cut_inside : ∀ (p r : List UInt8), (∀ c ∈ p, ¬ c = 34) → cutF true (p ++ r) = consHead p (cutF true r)
  | [], r, _ => by simp [consHead_nil _ (cutF_ne _ _)]
  | c :: p, r, h => by
    have hc := h c (by simp)
    rw [List.cons_append, cutF, if_neg (by simp), if_neg hc, cut_inside p r (fun d hd => h d (by simp [hd])), ← consHead_append]
    rfl
theorem piece_quote (x : List UInt8) : Piece (quoteB x) := by
  intro r
  have e : quoteB x ++ r = 34 :: (formsB x ++ (34 :: r)) := by simp [quoteB]
  rw [e, cutF, if_neg (by decide), if_pos rfl]
  show consHead [34] (cutF true _) = _
  rw [cut_inside _ _ (formsB_no34 x), cutF, if_neg (by decide), if_pos rfl]
  show consHead [34] (consHead (formsB x) (consHead [34] (cutF false r))) = _
  rw [← consHead_append, ← consHead_append]
  rfl
theorem piece_word {w : List UInt8} (h : wordB w = true) : Piece w := by
  simp only [wordB, Bool.or_eq_true] at h
  rcases h with h | h
  · refine fun r => cut_plain w r fun c hc => ?_
    simp only [plainB, Bool.and_eq_true, List.all_eq_true] at h
    have := h.2 c hc
    constructor
    · rintro rfl; exact absurd this (by decide)
    · rintro rfl; exact absurd this (by decide)
  · obtain ⟨x, hx⟩ := Option.isSome_iff_exists.1 h
    rw [← unquoteB_some hx]; exact piece_quote x

theorem cut_join : ∀ (P : List (List UInt8)), P ≠ [] → (∀ p ∈ P, Piece p) → cutF false (joinB P) = P
  | [], h, _ => absurd rfl h
  | [x], _, h => by
    have := h x (by simp) []
    simp [cutF, consHead] at this
    simpa [joinB] using this
  | x :: y :: t, _, h => by
    have h1 := h x (by simp) (32 :: joinB (y :: t))
    have h2 := cut_join (y :: t) (by simp) (fun p hp => h p (by simp at hp ⊢; exact .inr hp))
    rw [joinB, h1, cutF, if_pos ⟨rfl, rfl⟩, h2]
    simp [consHead]

theorem joinB_consHead (c : UInt8) (X : List (List UInt8)) (h : X ≠ []) : joinB (consHead [c] X) = c :: joinB X := by
  match X, h with
  | [x], _ => rfl
  | x :: y :: t, _ => rfl
theorem join_cut : ∀ (l : List UInt8) (ins : Bool), joinB (cutF ins l) = l
  | [], ins => by cases ins <;> rfl
  | c :: r, ins => by
    rw [cutF]
    split
    · rename_i h
      have h1 := join_cut r false
      have h2 := cutF_ne false r
      revert h1 h2
      generalize cutF false r = X
      intro h1 h2
      match X, h2 with
      | y :: t, _ => simp only [joinB, List.nil_append, h1, h.1]
    · rw [joinB_consHead _ _ (cutF_ne _ _), join_cut r]

theorem wordB_ne {w : List UInt8} (h : wordB w = true) : w ≠ [] := by rintro rfl; exact absurd h (by decide)
theorem joinB_ne {P : List (List UInt8)} (h : P ≠ []) (hw : ∀ p ∈ P, p ≠ []) : joinB P ≠ [] := by
  match P, h with
  | [x], _ => exact hw x (by simp)
  | x :: y :: t, _ => simp [joinB]
theorem split_join (P : List (List UInt8)) (h : ∀ p ∈ P, wordB p = true) : splitB (joinB P) = some P := by
  by_cases hP : P = []
  · subst hP; rfl
  · exact split_yes (joinB_ne hP fun p hp => wordB_ne (h p hp)) (cut_join P hP fun p hp => piece_word (h p hp)) h
theorem join_split {l : List UInt8} {ws : List (List UInt8)} (h : splitB l = some ws) : joinB ws = l := by
  unfold splitB at h
  split at h
  · rename_i hl; subst hl; injection h with h; subst h; rfl
  · split at h
    · injection h with h; subst h; exact join_cut l false
    · cases h

theorem cutF_count : ∀ (l : List UInt8) (ins : Bool), (cutF ins l).length ≤ l.length + 1
  | [], ins => by cases ins <;> simp [cutF]
  | c :: r, ins => by
    rw [cutF]
    split
    · have := cutF_count r false; simp; omega
    · have h1 := cutF_count r (if c = 34 then !ins else ins)
      revert h1
      generalize cutF (if c = 34 then !ins else ins) r = X
      intro h1
      cases X <;> simp [consHead] at * <;> omega
theorem join_count {l : List UInt8} {ws : List (List UInt8)} (h : splitB l = some ws) : ws.length ≤ l.length + 1 := by
  unfold splitB at h
  split at h
  · injection h with h; subst h; simp
  · split at h
    · injection h with h; subst h; exact cutF_count l false
    · cases h
theorem joinB_len : ∀ (P : List (List UInt8)) (n : Nat), (∀ p ∈ P, p.length ≤ n) → (joinB P).length ≤ P.length * (n + 1)
  | [], n, _ => by simp [joinB]
  | [x], n, h => by have := h x (by simp); simp [joinB]; omega
  | x :: y :: t, n, h => by
    have h1 := h x (by simp)
    have h2 := joinB_len (y :: t) n (fun p hp => h p (by simp at hp ⊢; exact .inr hp))
    simp only [joinB, List.length_append, List.length_cons] at *
    have : (t.length + 1 + 1) * (n + 1) = (t.length + 1) * (n + 1) + (n + 1) := by rw [Nat.add_mul]; omega
    omega

theorem blank_le {a b t : List UInt8} {n : Nat} (h : a ++ b = t) (ht : t.length ≤ n) {c : List UInt8} (hc : c.length ≤ a.length) : c.length ≤ n := by
  rw [← h, List.length_append] at ht; omega
/-- The words of QuoteLines: each second one stays, if it is plain. -/
def lineWords : Nat → List (List UInt8) → List (List UInt8)
  | _, [] => []
  | i, x :: t => (if i % 2 = 0 ∨ plainB x = false then quoteB x else x) :: lineWords (i + 1) t
theorem wordB_quote (x : List UInt8) : wordB (quoteB x) = true := by simp [wordB, unquoteB_quote]
theorem lineWords_word : ∀ (l : List (List UInt8)) (i : Nat), ∀ p ∈ lineWords i l, wordB p = true
  | [], _, p, h => by simp [lineWords] at h
  | x :: t, i, p, h => by
    simp only [lineWords, List.mem_cons] at h
    rcases h with rfl | h
    · split
      · exact wordB_quote x
      · rename_i hc
        simp only [not_or] at hc
        simp [wordB]; left; simpa using hc.2
    · exact lineWords_word t (i + 1) p h
theorem lineWords_len : ∀ (l : List (List UInt8)) (i : Nat), (lineWords i l).length = l.length
  | [], _ => rfl
  | _ :: t, i => by simp [lineWords, lineWords_len t]
theorem lineWords_le : ∀ (l : List (List UInt8)) (i : Nat), (∀ x ∈ l, x.length ≤ 300) → ∀ p ∈ lineWords i l, p.length ≤ 1202
  | [], _, _, p, h => by simp [lineWords] at h
  | x :: t, i, hx, p, h => by
    simp only [lineWords, List.mem_cons] at h
    rcases h with rfl | h
    · have h1 := hx x (by simp)
      split
      · have := quoteB_len x; omega
      · omega
    · exact lineWords_le t (i + 1) (fun y hy => hx y (by simp [hy])) p h
theorem lineWords_snoc : ∀ (l : List (List UInt8)) (i : Nat) (x : List UInt8), lineWords i (l ++ [x]) = lineWords i l ++ [if (i + l.length) % 2 = 0 ∨ plainB x = false then quoteB x else x]
  | [], i, x => by simp [lineWords]
  | y :: t, i, x => by
    have := lineWords_snoc t (i + 1) x
    have e : i + 1 + t.length = i + (t.length + 1) := by omega
    rw [e] at this
    simp only [List.cons_append, lineWords, this, List.length_cons]
theorem lineWords_take (l : List (List UInt8)) (k : Nat) (h : k < l.length) : lineWords 0 (l.take (k + 1)) = lineWords 0 (l.take k) ++ [if k % 2 = 0 ∨ plainB l[k] = false then quoteB l[k] else l[k]] := by
  rw [List.take_succ_eq_append_getElem h, lineWords_snoc]
  have : (l.take k).length = k := by simp; omega
  rw [this, Nat.zero_add]

/-- The pieces of QuoteBlank that are to come at word i. -/
def restP (l : List (List UInt8)) (n i : Nat) : List (List UInt8) := if i ≤ n then ((l.map quoteB).take n).drop i ++ [] :: (l.map quoteB).drop n else (l.map quoteB).drop i
def blankT (l : List (List UInt8)) (n : Nat) : List UInt8 := joinB (restP l n 0)
theorem restP_lt {l : List (List UInt8)} {n i : Nat} (h : i < n) (hl : i < l.length) : restP l n i = quoteB l[i] :: restP l n (i + 1) := by
  unfold restP
  rw [if_pos (by omega), if_pos (by omega), List.drop_eq_getElem_cons (by simp; omega)]
  simp
theorem restP_ne {l : List (List UInt8)} {n i : Nat} (h : i ≤ n) : restP l n i ≠ [] := by unfold restP; rw [if_pos h]; simp
theorem restP_at {l : List (List UInt8)} {n : Nat} (hl : n < l.length) : restP l n n = [] :: quoteB l[n] :: (l.map quoteB).drop (n + 1) := by
  unfold restP
  rw [if_pos (Nat.le_refl _), List.drop_eq_nil_of_le (by simp; omega), List.drop_eq_getElem_cons (l := l.map quoteB) (by simpa using hl)]
  simp
theorem restP_gt {l : List (List UInt8)} {n i : Nat} (h : n < i) : restP l n i = (l.map quoteB).drop i := by unfold restP; rw [if_neg (by omega)]
theorem drop_quote {l : List (List UInt8)} {i : Nat} (hl : i < l.length) : (l.map quoteB).drop i = quoteB l[i] :: (l.map quoteB).drop (i + 1) := by
  rw [List.drop_eq_getElem_cons (by simpa using hl)]; simp
theorem join_drop {l : List (List UInt8)} {i : Nat} (hl : i < l.length) : joinB ((l.map quoteB).drop i) = quoteB l[i] ++ (if i + 1 < l.length then [32] else []) ++ joinB ((l.map quoteB).drop (i + 1)) := by
  rw [drop_quote hl]
  split
  · rename_i h
    rw [drop_quote h]; simp [joinB]
  · rename_i h
    rw [List.drop_eq_nil_of_le (by simp; omega)]; simp [joinB]
/-- What the round adds. -/
theorem blank_step {l : List (List UInt8)} {n i : Nat} (hn : n ≤ l.length) (hl : i < l.length) :
    joinB (restP l n i) = (if i = n then [32] else []) ++ quoteB l[i] ++ (if i + 1 < l.length ∨ n = l.length then [32] else []) ++ joinB (restP l n (i + 1)) := by
  rcases Nat.lt_trichotomy i n with h | h | h
  · rw [restP_lt h hl, if_neg (by omega), if_pos (by omega)]
    have hne := restP_ne (l := l) (show i + 1 ≤ n from h)
    revert hne
    generalize restP l n (i + 1) = R
    intro hne
    match R, hne with
    | y :: t, _ => simp [joinB]
  · subst h
    rw [restP_at hl, if_pos rfl, restP_gt (by omega)]
    have := join_drop hl
    rw [drop_quote hl] at this
    have e : joinB ([] :: quoteB l[i] :: (l.map quoteB).drop (i + 1)) = 32 :: joinB (quoteB l[i] :: (l.map quoteB).drop (i + 1)) := rfl
    rw [e, this]
    have e2 : (i + 1 < l.length ∨ i = l.length) ↔ i + 1 < l.length := by omega
    simp [e2]
  · rw [restP_gt h, restP_gt (by omega), if_neg (by omega), join_drop hl]
    have e2 : (i + 1 < l.length ∨ n = l.length) ↔ i + 1 < l.length := by omega
    simp [e2]
theorem blank_end {l : List (List UInt8)} {n : Nat} (hn : n ≤ l.length) : joinB (restP l n l.length) = [] := by
  unfold restP
  split
  · obtain rfl : n = l.length := by omega
    rw [List.drop_eq_nil_of_le (by simp), List.drop_eq_nil_of_le (by simp)]; rfl
  · rw [List.drop_eq_nil_of_le (by simp)]; rfl
theorem blank_piece {l : List (List UInt8)} {n : Nat} : ∀ p ∈ restP l n 0, Piece p := by
  intro p hp
  unfold restP at hp
  rw [if_pos (Nat.zero_le _)] at hp
  simp only [List.drop_zero, List.mem_append, List.mem_cons] at hp
  rcases hp with h | rfl | h
  · obtain ⟨x, _, rfl⟩ := List.mem_map.1 (List.mem_of_mem_take h); exact piece_quote x
  · exact piece_nil
  · obtain ⟨x, _, rfl⟩ := List.mem_map.1 (List.mem_of_mem_drop h); exact piece_quote x
theorem blank_none {l : List (List UInt8)} {n : Nat} (hl : l ≠ []) (hn : n ≤ l.length) : splitB (blankT l n) = none := by
  have hc := cut_join (restP l n 0) (restP_ne (Nat.zero_le _)) blank_piece
  have hne : blankT l n ≠ [] := by
    intro e
    rw [blankT] at e
    rw [e] at hc
    have h0 : 0 < l.length := by cases l with | nil => exact absurd rfl hl | cons _ _ => simp
    have h2 : (restP l n 0).length = l.length + 1 := by
      unfold restP; rw [if_pos (Nat.zero_le _)]; simp; omega
    rw [← hc] at h2
    exact hl (by simpa [cutF] using h2)
  have hm : restP l n 0 = (l.map quoteB).take n ++ [] :: (l.map quoteB).drop n := by unfold restP; rw [if_pos (Nat.zero_le _)]; simp
  exact split_no hne (hc.trans hm) (by decide)
theorem blank_len {l : List (List UInt8)} {n : Nat} (h : l.length ≤ 40) (hx : ∀ x ∈ l, x.length ≤ 300) (hn : n ≤ l.length) : (blankT l n).length ≤ 60000 := by
  have h1 := joinB_len (restP l n 0) 1202 (by
    intro p hp
    unfold restP at hp
    rw [if_pos (Nat.zero_le _)] at hp
    simp only [List.drop_zero, List.mem_append, List.mem_cons] at hp
    rcases hp with h | rfl | h
    · obtain ⟨x, hx', rfl⟩ := List.mem_map.1 (List.mem_of_mem_take h); have := quoteB_len x; have := hx x hx'; omega
    · simp
    · obtain ⟨x, hx', rfl⟩ := List.mem_map.1 (List.mem_of_mem_drop h); have := quoteB_len x; have := hx x hx'; omega)
  have h2 : (restP l n 0).length = l.length + 1 := by
    unfold restP; rw [if_pos (Nat.zero_le _)]; simp; omega
  rw [h2] at h1
  unfold blankT
  have : (l.length + 1) * (1202 + 1) ≤ 41 * 1203 := Nat.mul_le_mul (by omega) (by omega)
  omega
end Go.Proofs.Ythhnkakobjbdlaa
