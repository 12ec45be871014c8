/- Texts put together: Pure20e, Count20, QuoB, QuoA, QuoC, Bld, BldGrow, QuoD, QuoE, Same, QuoG, PureQd, QuoF, WalkA20, WalkB20. -/
import Derived.Test.YtolbhjjcabiabaaGreatDoorQMPure20d
import Derived.Test.YtolbhjjcabiabaaGreatDoorQMWalkB03
import Derived.Test.YtolbhjjcabiabaaGreatDoorRows
import Derived.StillTailTactics
import Derived.Deep.QuietTactic
import Derived.BigQuiet
import Derived.Deep.RegionLaw
import Derived.Deep.RegionHeld3
import Derived.Test.YtolbhjjcabiabaaGreatDoorChecked
import Derived.Lib.Builder
import Derived.Lib.UnsafeStr
import Derived.Deep.LoopGhost
import Derived.Lib.AppendStr
import Derived.Deep.Cut
set_option linter.unusedVariables false
set_option linter.unusedSimpArgs false
/- Lines as the program writes and reads them: a kind's letters, word by word. No program's function. -/
set_option linter.unusedVariables false
set_option linter.unusedSimpArgs false
namespace Go.Proofs.YtolbhjjcabiabaaGreatDoor

/-- What the words behind a line's first one tell, a letter for each. -/
def tellsK (k : Int) : List UInt8 :=
  if k = 1 then [65] else if k = 2 then [65, 66] else if k = 3 then [83, 65, 66] else if k = 4 then [68, 65] else if k = 5 then [65, 66] else
  if k = 6 then [65, 66] else if k = 7 then [83, 65] else if k = 8 then [65] else if k = 9 then [83, 65] else if k = 10 then [83, 65] else []
def textP (o : OpV) (c : UInt8) : List UInt8 := if c = 68 then o.data else if c = 65 then o.a else o.b
def wordP (o : OpV) (c : UInt8) : List UInt8 := if c = 83 then decB o.slot.toNat else quoteB (textP o c)
def putP (o : OpV) (c : UInt8) (t : List UInt8) : OpV := if c = 68 then { o with data := t } else if c = 65 then { o with a := t } else { o with b := t }
def tellP (o : OpV) (c : UInt8) (x : List UInt8) : Option OpV := if c = 83 then (numP x).map (fun (n : Nat) => { o with slot := (n : Int) }) else (unquoteB x).map (putP o c)
def foldP : OpV → List UInt8 → List (List UInt8) → Option OpV
  | o, [], [] => some o
  | o, c :: cs, x :: xs => (tellP o c x).bind (fun p => foldP p cs xs)
  | _, _, _ => none
theorem tells_len (k : Int) : (tellsK k).length ≤ 3 := by
  unfold tellsK
  repeat' split
  all_goals simp
theorem tells_pos {k : Int} (h1 : 1 ≤ k) (h2 : k ≤ 10) : 1 ≤ (tellsK k).length := by
  rcases word_cases h1 h2 with rfl | rfl | rfl | rfl | rfl | rfl | rfl | rfl | rfl | rfl <;> decide
theorem tells_letter (k : Int) : ∀ c ∈ tellsK k, c = 83 ∨ c = 68 ∨ c = 65 ∨ c = 66 := by
  unfold tellsK
  repeat' split
  all_goals simp
theorem line_words {o : OpV} (h : 1 ≤ o.kind ∧ o.kind ≤ 10) : wordK o.kind :: (tellsK o.kind).map (wordP o) = lineW o := by
  obtain ⟨k, s, a, b, d⟩ := o
  dsimp only at h
  rcases word_cases h.1 h.2 with rfl | rfl | rfl | rfl | rfl | rfl | rfl | rfl | rfl | rfl <;> simp [lineW, slotK, pairK, tellsK, wordP, textP]
/-- Is the word behind letter c of operation p the word x? -/
def Tells (p : OpV) (c : UInt8) (x : List UInt8) : Prop := wordP p c = x ∧ (c = 83 → 0 ≤ p.slot)
theorem tell_some {o p : OpV} {c : UInt8} {x : List UInt8} (h : tellP o c x = some p) : Tells p c x ∧ p.kind = o.kind ∧ (c ≠ 83 → p.slot = o.slot) ∧ (c ≠ 68 → p.data = o.data) ∧ (c ≠ 65 → p.a = o.a) ∧ (c = 83 ∨ c = 68 ∨ c = 65 → p.b = o.b) := by
  unfold tellP at h
  by_cases hc : c = 83
  · rw [if_pos hc] at h
    cases hn : numP x with
    | none => rw [hn] at h; cases h
    | some n =>
      rw [hn] at h
      cases h
      obtain ⟨_, h2⟩ := (numP_iff x n).1 hn
      refine ⟨⟨?_, fun _ => by simp⟩, rfl, fun e => absurd hc e, fun _ => rfl, fun _ => rfl, fun _ => rfl⟩
      unfold wordP
      rw [if_pos hc]
      simpa using h2
  · rw [if_neg hc] at h
    cases hu : unquoteB x with
    | none => rw [hu] at h; cases h
    | some t =>
      rw [hu] at h
      cases h
      have hq := unquoteB_some hu
      refine ⟨⟨?_, fun e => absurd e hc⟩, ?_⟩
      · unfold wordP textP putP
        rw [if_neg hc]
        by_cases h1 : c = 68
        · rw [if_pos h1, if_pos h1]; exact hq
        · by_cases h2 : c = 65
          · rw [if_neg h1, if_pos h2, if_neg h1, if_pos h2]; exact hq
          · rw [if_neg h1, if_neg h2, if_neg h1, if_neg h2]; exact hq
      · unfold putP
        by_cases h1 : c = 68
        · rw [if_pos h1]
          exact ⟨rfl, fun _ => rfl, fun e => absurd h1 e, fun _ => rfl, fun _ => rfl⟩
        · by_cases h2 : c = 65
          · rw [if_neg h1, if_pos h2]
            exact ⟨rfl, fun _ => rfl, fun _ => rfl, fun e => absurd h2 e, fun _ => rfl⟩
          · rw [if_neg h1, if_neg h2]
            exact ⟨rfl, fun _ => rfl, fun _ => rfl, fun _ => rfl, fun e => by rcases e with e | e | e <;> contradiction⟩
theorem tell_slot (o : OpV) {n : Nat} (h : n < 9223372036854775808) : tellP o 83 (decB n) = some { o with slot := (n : Int) } := by
  unfold tellP
  rw [if_pos rfl, (numP_iff _ n).2 ⟨h, rfl⟩]; rfl
theorem tell_text (o : OpV) {c : UInt8} (hc : c ≠ 83) (t : List UInt8) : tellP o c (quoteB t) = some (putP o c t) := by
  unfold tellP
  rw [if_neg hc, unquoteB_quote]; rfl
theorem fold_line {o : OpV} (h : mayO o = true) : foldP ⟨o.kind, 0, [], [], []⟩ (tellsK o.kind) ((tellsK o.kind).map (wordP o)) = some o := by
  have hk := may_kind h
  obtain ⟨a1, a2, a3, a4⟩ := may_none h
  obtain ⟨k, s, a, b, d⟩ := o
  dsimp only at hk a1 a2 a3 a4 ⊢
  clear h
  have hs : slotK k = true → ∃ n : Nat, s = (n : Int) ∧ n < 9223372036854775808 := fun e => ⟨s.toNat, by have := a2 e; omega, by have := a2 e; omega⟩
  rcases word_cases hk.1 hk.2 with rfl | rfl | rfl | rfl | rfl | rfl | rfl | rfl | rfl | rfl
  all_goals simp [slotK, pairK] at a1 a2 a3 a4 hs
  all_goals first
    | (obtain ⟨n, rfl, hn⟩ := hs; simp [tellsK, foldP, wordP, textP, tell_text, putP, tell_slot _ hn, *])
    | simp [tellsK, foldP, wordP, textP, tell_text, putP, *]
theorem fold_back {k : Int} (h1 : 1 ≤ k) (h2 : k ≤ 10) {xs : List (List UInt8)} {o : OpV} (h : foldP ⟨k, 0, [], [], []⟩ (tellsK k) xs = some o) : o.kind = k ∧ xs = (tellsK k).map (wordP o) := by
  have one : ∀ {p q : OpV} {c : UInt8} {ys : List (List UInt8)}, foldP p [c] ys = some q → ∃ x, ys = [x] ∧ tellP p c x = some q := by
    intro p q c ys h
    match ys, h with
    | [x], h =>
      simp only [foldP] at h
      cases ht : tellP p c x with
      | none => rw [ht] at h; cases h
      | some r => rw [ht] at h; simp only [Option.bind_some, foldP, Option.some.injEq] at h; subst h; exact ⟨x, rfl, ht⟩
    | [], h => simp [foldP] at h
    | x :: y :: t, h =>
      simp only [foldP] at h
      cases ht : tellP p c x with
      | none => rw [ht] at h; cases h
      | some r => rw [ht] at h; simp [foldP] at h
  have more : ∀ {p q : OpV} {c d : UInt8} {cs : List UInt8} {ys : List (List UInt8)}, foldP p (c :: d :: cs) ys = some q → ∃ x zs r, ys = x :: zs ∧ tellP p c x = some r ∧ foldP r (d :: cs) zs = some q := by
    intro p q c d cs ys h
    match ys, h with
    | [], h => simp [foldP] at h
    | x :: t, h =>
      rw [foldP] at h
      cases ht : tellP p c x with
      | none => rw [ht] at h; cases h
      | some r => rw [ht] at h; exact ⟨x, t, r, rfl, ht, h⟩
  have oneA : foldP ⟨k, 0, [], [], []⟩ [65] xs = some o → o.kind = k ∧ xs = [65].map (wordP o) := fun h => by
    obtain ⟨x, rfl, hx⟩ := one h
    obtain ⟨q1, q2, _⟩ := tell_some hx
    exact ⟨q2, by rw [List.map_cons, q1.1]; rfl⟩
  have twoAB : foldP ⟨k, 0, [], [], []⟩ [65, 66] xs = some o → o.kind = k ∧ xs = [65, 66].map (wordP o) := fun h => by
    obtain ⟨x, zs, r, rfl, hx, h⟩ := more h
    obtain ⟨y, rfl, hy⟩ := one h
    obtain ⟨q1, q2, _⟩ := tell_some hx
    obtain ⟨r1, r2, r3, r4, r5, r6⟩ := tell_some hy
    refine ⟨r2.trans q2, ?_⟩
    have e : wordP o 65 = wordP r 65 := by simp [wordP, textP, r5 (by decide)]
    rw [List.map_cons, List.map_cons, e, q1.1, r1.1]; rfl
  have twoSA : foldP ⟨k, 0, [], [], []⟩ [83, 65] xs = some o → o.kind = k ∧ xs = [83, 65].map (wordP o) := fun h => by
    obtain ⟨x, zs, r, rfl, hx, h⟩ := more h
    obtain ⟨y, rfl, hy⟩ := one h
    obtain ⟨q1, q2, _⟩ := tell_some hx
    obtain ⟨r1, r2, r3, r4, r5, r6⟩ := tell_some hy
    refine ⟨r2.trans q2, ?_⟩
    have e : wordP o 83 = wordP r 83 := by simp [wordP, r3 (by decide)]
    rw [List.map_cons, List.map_cons, e, q1.1, r1.1]; rfl
  have twoDA : foldP ⟨k, 0, [], [], []⟩ [68, 65] xs = some o → o.kind = k ∧ xs = [68, 65].map (wordP o) := fun h => by
    obtain ⟨x, zs, r, rfl, hx, h⟩ := more h
    obtain ⟨y, rfl, hy⟩ := one h
    obtain ⟨q1, q2, _⟩ := tell_some hx
    obtain ⟨r1, r2, r3, r4, r5, r6⟩ := tell_some hy
    refine ⟨r2.trans q2, ?_⟩
    have e : wordP o 68 = wordP r 68 := by simp [wordP, textP, r4 (by decide)]
    rw [List.map_cons, List.map_cons, e, q1.1, r1.1]; rfl
  have threeSAB : foldP ⟨k, 0, [], [], []⟩ [83, 65, 66] xs = some o → o.kind = k ∧ xs = [83, 65, 66].map (wordP o) := fun h => by
    obtain ⟨x, zs, r, rfl, hx, h⟩ := more h
    obtain ⟨y, zs, p, rfl, hy, h⟩ := more h
    obtain ⟨z, rfl, hz⟩ := one h
    obtain ⟨q1, q2, _⟩ := tell_some hx
    obtain ⟨r1, r2, r3, r4, r5, r6⟩ := tell_some hy
    obtain ⟨s1, s2, s3, s4, s5, s6⟩ := tell_some hz
    refine ⟨s2.trans (r2.trans q2), ?_⟩
    have e : wordP o 83 = wordP r 83 := by simp [wordP, s3 (by decide), r3 (by decide)]
    have e2 : wordP o 65 = wordP p 65 := by simp [wordP, textP, s5 (by decide)]
    rw [List.map_cons, List.map_cons, List.map_cons, e, e2, q1.1, r1.1, s1.1]; rfl
  rcases word_cases h1 h2 with rfl | rfl | rfl | rfl | rfl | rfl | rfl | rfl | rfl | rfl
  · exact oneA h
  · exact twoAB h
  · exact threeSAB h
  · exact twoDA h
  · exact twoAB h
  · exact twoAB h
  · exact twoSA h
  · exact oneA h
  · exact twoSA h
  · exact twoSA h
/-- The kind whose word that is; 0, if it is none's. -/
def kindW (x : List UInt8) : Int := (kindsO.find? (fun k => decide (wordK k = x))).getD 0
theorem kindW_of {k : Int} (h1 : 1 ≤ k) (h2 : k ≤ 10) : kindW (wordK k) = k := by
  rcases word_cases h1 h2 with rfl | rfl | rfl | rfl | rfl | rfl | rfl | rfl | rfl | rfl <;> decide
theorem kindW_some {x : List UInt8} (h : kindW x ≠ 0) : 1 ≤ kindW x ∧ kindW x ≤ 10 ∧ wordK (kindW x) = x := by
  unfold kindW at h ⊢
  cases hf : kindsO.find? (fun k => decide (wordK k = x)) with
  | none => rw [hf] at h; exact absurd rfl h
  | some k =>
    have h1 := List.find?_some hf
    have h2 := List.mem_of_find?_eq_some hf
    simp only [decide_eq_true_eq] at h1
    have h3 : 1 ≤ k ∧ k ≤ 10 := by
      simp only [kindsO, List.mem_cons, List.not_mem_nil, or_false] at h2
      omega
    exact ⟨h3.1, h3.2, h1⟩
theorem kindW_bounds (x : List UInt8) : 0 ≤ kindW x ∧ kindW x ≤ 10 := by
  by_cases h : kindW x = 0
  · omega
  · have := kindW_some h; omega
def readP (s : List UInt8) : Option OpV :=
  match splitB s with
  | none => none
  | some [] => none
  | some (x :: xs) => if kindW x = 0 ∨ xs.length ≠ (tellsK (kindW x)).length then none else (foldP ⟨kindW x, 0, [], [], []⟩ (tellsK (kindW x)) xs).bind (fun o => if mayO o = true then some o else none)
theorem read_p (s : List UInt8) : readP s = readO s := by
  have key : ∀ o, readP s = some o ↔ mayO o = true ∧ lineO o = s := by
    intro o
    constructor
    · intro h
      unfold readP at h
      cases hs : splitB s with
      | none => rw [hs] at h; cases h
      | some ws =>
        rw [hs] at h
        cases ws with
        | nil => cases h
        | cons x xs =>
          dsimp only at h
          split at h
          · cases h
          · rename_i hk
            obtain ⟨k1, k2, k3⟩ := kindW_some (fun e => hk (.inl e))
            cases hf : foldP ⟨kindW x, 0, [], [], []⟩ (tellsK (kindW x)) xs with
            | none => rw [hf] at h; cases h
            | some p =>
              rw [hf] at h
              dsimp only [Option.bind_some] at h
              split at h
              · rename_i hm
                cases h
                obtain ⟨f1, f2⟩ := fold_back k1 k2 hf
                refine ⟨hm, ?_⟩
                have hj := join_split hs
                unfold lineO
                rw [if_pos (by rw [f1]; exact ⟨k1, k2⟩), ← line_words (by rw [f1]; exact ⟨k1, k2⟩), f1, ← f2, k3]
                exact hj
              · cases h
    · rintro ⟨hm, rfl⟩
      have hk := may_kind hm
      unfold readP
      rw [line_split hm, ← line_words hk]
      dsimp only
      rw [kindW_of hk.1 hk.2, if_neg (fun c => c.elim (fun c => by omega) (fun c => c (by simp))), fold_line hm]
      dsimp only [Option.bind_some]
      rw [if_pos hm]
  cases h : readP s with
  | none =>
    refine (read_none fun o hm hl => ?_).symm
    have := (key o).2 ⟨hm, hl⟩
    rw [h] at this; cases this
  | some o =>
    obtain ⟨h1, h2⟩ := (key o).1 h
    exact ((read_iff s o).2 ⟨h1, h2⟩).symm
end Go.Proofs.YtolbhjjcabiabaaGreatDoor

/- A text's first line, as the program reads it. No program's function. -/
set_option linter.unusedVariables false
set_option linter.unusedSimpArgs false
namespace Go.Proofs.YtolbhjjcabiabaaGreatDoor

/-- How many operations a text's first line says there are. -/
def countP (s : List UInt8) : Option Nat :=
  match splitB s with
  | some [x, y] => if x = [112, 108, 97, 110] then (numP y).bind (fun n => if n ≤ 1073741824 then some n else none) else none
  | _ => none
theorem count_eq (s : List UInt8) : countP s = if s.length < 6 ∨ s.take 5 ≠ planW ∨ numB20 (s.drop 5) < 0 then none else some (numB20 (s.drop 5)).toNat := by
  by_cases hb : s.length < 6 ∨ s.take 5 ≠ planW ∨ numB20 (s.drop 5) < 0
  · rw [if_pos hb]
    unfold countP
    split
    · rename_i x y hs
      split
      · rename_i hx
        subst hx
        have hj := join_split hs
        have hj2 : planW ++ y = s := by rw [← hj]; simp [joinQ, planW]
        have h5 : s.take 5 = planW := by rw [← hj2]; simp [planW]
        have h6 : s.drop 5 = y := by rw [← hj2]; simp [planW]
        cases hn : numP y with
        | none => rfl
        | some n =>
          show (if n ≤ 1073741824 then some n else none) = none
          rw [if_neg]
          intro hle
          have h7 := num_p hn hle
          obtain ⟨_, hd⟩ := (numP_iff y n).1 hn
          have h8 := dec_len1 n
          have h9 : s.length = 5 + y.length := by rw [← hj2]; simp [planW]; omega
          rw [hd] at h8
          rcases hb with c | c | c
          · omega
          · exact c h5
          · rw [h6, h7] at c; omega
      · rfl
    · rfl
  · rw [if_neg hb]
    have h5 : s.take 5 = planW := Decidable.byContradiction fun c => hb (.inr (.inl c))
    have h6 : 0 ≤ numB20 (s.drop 5) := Int.not_lt.1 fun c => hb (.inr (.inr c))
    obtain ⟨n1, n2⟩ := num_p_of h6
    obtain ⟨d1, _⟩ := num_ok h6
    have hj : joinQ [[112, 108, 97, 110], s.drop 5] = s := by
      conv => rhs; rw [← List.take_append_drop 5 s, h5]
      simp [joinQ, planW]
    have hw : ∀ p ∈ [[112, 108, 97, 110], s.drop 5], wordB p = true := by
      intro p hp
      simp only [List.mem_cons, List.not_mem_nil, or_false] at hp
      rcases hp with rfl | rfl
      · decide
      · rw [← d1]; exact dec_word _
    have hs := split_join _ hw
    rw [hj] at hs
    unfold countP
    rw [hs]
    dsimp only
    rw [if_pos rfl, n1]
    show (if _ then _ else _) = _
    rw [if_pos (by omega)]
end Go.Proofs.YtolbhjjcabiabaaGreatDoor

/- Walks: the document's forms, and plain words. -/
set_option linter.unusedVariables false
set_option linter.unusedSimpArgs false
namespace Go.Proofs.YtolbhjjcabiabaaGreatDoor
open Go.RowKit

set_option maxHeartbeats 800000 in
set_option maxRecDepth 100000 in
theorem Byte_any (c : UInt8) (w : World) :
    Calls Tryz.prog 56 #[.int .u8 (c.toNat : Int)] w fun e w' => e = .returned (.string ⟨(formB c).toArray⟩) ∧ Below w.heap.size w w' := by
  have h0 : (0 : Int) ≤ c.toNat := by omega
  have hc := c.toNat_lt
  have q0 : (0 : Int) ≤ (c.toNat : Int) / 16 := by omega
  have q1 : (c.toNat : Int) / 16 < 16 := by omega
  have r0 : (0 : Int) ≤ (c.toNat : Int) % 16 := by omega
  have r1 : (c.toNat : Int) % 16 < 16 := by omega
  have e1 : IntKind.u8.wrap ((c.toNat : Int) / 16) = (c.toNat : Int) / 16 := IntWalk.u8_in _ (by omega)
  have e2 : ((c.toNat : Int).tmod 16) = (c.toNat : Int) % 16 := IntWalk.rem_in _ _ h0
  by_cases b1 : (32 : Int) ≤ c.toNat
  · by_cases b2 : (c.toNat : Int) ≤ 126
    · cases b3 : ((c.toNat : Int) != 34)
      · (have hb : bareB c = false := by (rw [Bool.eq_false_iff]; simp [bareB]; simp at b3; omega)); have hf := Lib.hid (formB_hex hb); have g1 := Lib.hid (hex_atN (c.toNat / 16) (by simp [hexDigits]; omega)); have g2 := Lib.hid (hex_atN (c.toNat % 16) (by simp [hexDigits]; omega)); go_enter Tryz.func56, Tryz.ntmps56; go_wp2; go_still_tail 6, (by kernel_rfl); change wpList _ _ _ _ _ w.drew; generalize hwd : w.drew = w2; have hB : Below w.heap.size w w2 := (by rw [← hwd]; exact (Below.refl _ _).drew); clear hwd; have hcv := run_new_string (P := Tryz.prog) w2 60 9 Tryz.underlying60 Tryz.underlying5 Tryz.underlying9 [92, 120, hexDigits[c.toNat / 16]'(by simp [hexDigits]; omega), hexDigits[c.toNat % 16]'(by simp [hexDigits]; omega)] #[.int .u8 92, .int .u8 120, .int .u8 ((hexDigits[c.toNat / 16]'(by simp [hexDigits]; omega)).toNat : Int), .int .u8 ((hexDigits[c.toNat % 16]'(by simp [hexDigits]; omega)).toNat : Int)] rfl 4 rfl; unfold hexDigits at hcv; go_wp2; clear hcv; go_ret; exact ⟨by (rw [hf.out, ← g1.out, ← g2.out]; rfl), hB.alloc hB.size _⟩
      · cases b4 : ((c.toNat : Int) != 92)
        · (have hb : bareB c = false := by (rw [Bool.eq_false_iff]; simp [bareB]; simp at b4; omega)); have hf := Lib.hid (formB_hex hb); have g1 := Lib.hid (hex_atN (c.toNat / 16) (by simp [hexDigits]; omega)); have g2 := Lib.hid (hex_atN (c.toNat % 16) (by simp [hexDigits]; omega)); go_enter Tryz.func56, Tryz.ntmps56; go_wp2; go_still_tail 6, (by kernel_rfl); change wpList _ _ _ _ _ w.drew; generalize hwd : w.drew = w2; have hB : Below w.heap.size w w2 := (by rw [← hwd]; exact (Below.refl _ _).drew); clear hwd; have hcv := run_new_string (P := Tryz.prog) w2 60 9 Tryz.underlying60 Tryz.underlying5 Tryz.underlying9 [92, 120, hexDigits[c.toNat / 16]'(by simp [hexDigits]; omega), hexDigits[c.toNat % 16]'(by simp [hexDigits]; omega)] #[.int .u8 92, .int .u8 120, .int .u8 ((hexDigits[c.toNat / 16]'(by simp [hexDigits]; omega)).toNat : Int), .int .u8 ((hexDigits[c.toNat % 16]'(by simp [hexDigits]; omega)).toNat : Int)] rfl 4 rfl; unfold hexDigits at hcv; go_wp2; clear hcv; go_ret; exact ⟨by (rw [hf.out, ← g1.out, ← g2.out]; rfl), hB.alloc hB.size _⟩
        · have hb : bareB c = true := by simp [bareB]; simp at b3 b4; omega
          have hf := Lib.hid (formB_bare hb)
          go_enter Tryz.func56, Tryz.ntmps56
          have hcv := run_new_string (P := Tryz.prog) w 60 9 Tryz.underlying60 Tryz.underlying5 Tryz.underlying9 [c] #[.int .u8 (c.toNat : Int)] rfl 1 rfl
          go_wp2
          go_ret
          exact ⟨by (rw [hf.out]; rfl), (Below.refl _ _).alloc (Nat.le_refl _) _⟩
    · (have hb : bareB c = false := by (rw [Bool.eq_false_iff]; simp [bareB]; simp at b2; omega)); have hf := Lib.hid (formB_hex hb); have g1 := Lib.hid (hex_atN (c.toNat / 16) (by simp [hexDigits]; omega)); have g2 := Lib.hid (hex_atN (c.toNat % 16) (by simp [hexDigits]; omega)); go_enter Tryz.func56, Tryz.ntmps56; go_wp2; go_still_tail 6, (by kernel_rfl); change wpList _ _ _ _ _ w.drew; generalize hwd : w.drew = w2; have hB : Below w.heap.size w w2 := (by rw [← hwd]; exact (Below.refl _ _).drew); clear hwd; have hcv := run_new_string (P := Tryz.prog) w2 60 9 Tryz.underlying60 Tryz.underlying5 Tryz.underlying9 [92, 120, hexDigits[c.toNat / 16]'(by simp [hexDigits]; omega), hexDigits[c.toNat % 16]'(by simp [hexDigits]; omega)] #[.int .u8 92, .int .u8 120, .int .u8 ((hexDigits[c.toNat / 16]'(by simp [hexDigits]; omega)).toNat : Int), .int .u8 ((hexDigits[c.toNat % 16]'(by simp [hexDigits]; omega)).toNat : Int)] rfl 4 rfl; unfold hexDigits at hcv; go_wp2; clear hcv; go_ret; exact ⟨by (rw [hf.out, ← g1.out, ← g2.out]; rfl), hB.alloc hB.size _⟩
  · (have hb : bareB c = false := by (rw [Bool.eq_false_iff]; simp [bareB]; simp at b1; omega)); have hf := Lib.hid (formB_hex hb); have g1 := Lib.hid (hex_atN (c.toNat / 16) (by simp [hexDigits]; omega)); have g2 := Lib.hid (hex_atN (c.toNat % 16) (by simp [hexDigits]; omega)); go_enter Tryz.func56, Tryz.ntmps56; go_wp2; go_still_tail 6, (by kernel_rfl); change wpList _ _ _ _ _ w.drew; generalize hwd : w.drew = w2; have hB : Below w.heap.size w w2 := (by rw [← hwd]; exact (Below.refl _ _).drew); clear hwd; have hcv := run_new_string (P := Tryz.prog) w2 60 9 Tryz.underlying60 Tryz.underlying5 Tryz.underlying9 [92, 120, hexDigits[c.toNat / 16]'(by simp [hexDigits]; omega), hexDigits[c.toNat % 16]'(by simp [hexDigits]; omega)] #[.int .u8 92, .int .u8 120, .int .u8 ((hexDigits[c.toNat / 16]'(by simp [hexDigits]; omega)).toNat : Int), .int .u8 ((hexDigits[c.toNat % 16]'(by simp [hexDigits]; omega)).toNat : Int)] rfl 4 rfl; unfold hexDigits at hcv; go_wp2; clear hcv; go_ret; exact ⟨by (rw [hf.out, ← g1.out, ← g2.out]; rfl), hB.alloc hB.size _⟩

theorem PlainQ_any (l : List UInt8) (w : World) (hl : l.length ≤ 1000000) :
    Calls Tryz.prog 91 #[.string ⟨l.toArray⟩] w fun e w' => e = .returned (.bool (plainQ l)) ∧ w = w' := by
  go_enter Tryz.func91, Tryz.ntmps91
  go_wp2
  go_loop [6] (fun i => ∃ k : Nat, k ≤ l.length ∧ i = .int .i64 k ∧ (l.take k).all plainC = true) (fun i => l.length - (intOf i).toNat)
  case atStart => exact ⟨0, Nat.zero_le _, rfl, rfl⟩
  case round =>
    obtain ⟨k, hk, rfl, ht⟩ := hrel
    have HT := Lib.hid ht
    clear ht
    by_cases hlt : k < l.length
    · have hs := plain_step l k hlt
      by_cases b1 : (33 : Int) ≤ l[k].toNat
      · by_cases b2 : (l[k].toNat : Int) ≤ 126
        · cases b3 : ((l[k].toNat : Int) == 34)
          · have hp : plainC l[k] = true := by simp [plainC]; simp at b3; omega
            have H3 := Lib.hid (hs HT.out hp)
            clear hs
            go_wp2
            go_round
            case rel => exact ⟨k + 1, by omega, by go_num, H3.out⟩
            case measure => simp [intOf]; omega
          · (have hp : plainC l[k] = false := by (rw [Bool.eq_false_iff]; simp [plainC]; simp at b3; omega)); have HP := Lib.hid (plain_no l k hlt hp); clear hp hs; go_wp2; go_ret; exact ⟨ret_bool (by rw [HP.out]), rfl⟩
        · (have hp : plainC l[k] = false := by (rw [Bool.eq_false_iff]; simp [plainC]; simp at b2; omega)); have HP := Lib.hid (plain_no l k hlt hp); clear hp hs; go_wp2; go_ret; exact ⟨ret_bool (by rw [HP.out]), rfl⟩
      · (have hp : plainC l[k] = false := by (rw [Bool.eq_false_iff]; simp [plainC]; simp at b1; omega)); have HP := Lib.hid (plain_no l k hlt hp); clear hp hs; go_wp2; go_ret; exact ⟨ret_bool (by rw [HP.out]), rfl⟩
    · obtain rfl : k = l.length := by omega
      rw [List.take_length] at HT
      have hq : plainQ l = !l.isEmpty := by simp [plainQ, HT.out]
      have HQ := Lib.hid hq
      clear hq hlt
      go_wp2
      go_ret
      exact ⟨ret_bool (by rw [HQ.out]), rfl⟩

theorem refPlainQ_any (l : List UInt8) (w : World) (hl : l.length ≤ 1000000) :
    Calls Tryz.prog 45 #[.string ⟨l.toArray⟩] w fun e w' => e = .returned (.bool (plainQ l)) ∧ w = w' := by
  go_enter Tryz.func45, Tryz.ntmps45
  go_wp2
  go_loop [3] (fun i => ∃ k : Nat, k ≤ l.length ∧ i = .int .i64 k ∧ (l.take k).all plainC = true) (fun i => l.length - (intOf i).toNat)
  case atStart => exact ⟨0, Nat.zero_le _, rfl, rfl⟩
  case round =>
    obtain ⟨k, hk, rfl, ht⟩ := hrel
    have HT := Lib.hid ht
    clear ht
    by_cases hlt : k < l.length
    · have hs := plain_step l k hlt
      by_cases b1 : (33 : Int) ≤ l[k].toNat
      · by_cases b2 : (l[k].toNat : Int) ≤ 126
        · cases b3 : ((l[k].toNat : Int) == 34)
          · have hp : plainC l[k] = true := by simp [plainC]; simp at b3; omega
            have H3 := Lib.hid (hs HT.out hp)
            clear hs
            go_wp2
            go_round
            case rel => exact ⟨k + 1, by omega, by go_num, H3.out⟩
            case measure => simp [intOf]; omega
          · (have hp : plainC l[k] = false := by (rw [Bool.eq_false_iff]; simp [plainC]; simp at b3; omega)); have HP := Lib.hid (plain_no l k hlt hp); clear hp hs; go_wp2; go_ret; exact ⟨ret_bool (by rw [HP.out]), rfl⟩
        · (have hp : plainC l[k] = false := by (rw [Bool.eq_false_iff]; simp [plainC]; simp at b2; omega)); have HP := Lib.hid (plain_no l k hlt hp); clear hp hs; go_wp2; go_ret; exact ⟨ret_bool (by rw [HP.out]), rfl⟩
      · (have hp : plainC l[k] = false := by (rw [Bool.eq_false_iff]; simp [plainC]; simp at b1; omega)); have HP := Lib.hid (plain_no l k hlt hp); clear hp hs; go_wp2; go_ret; exact ⟨ret_bool (by rw [HP.out]), rfl⟩
    · obtain rfl : k = l.length := by omega
      rw [List.take_length] at HT
      have hq : plainQ l = decide (0 < l.length) := by rw [Bool.eq_iff_iff]; simp [plainQ, List.length_pos_iff]; exact fun _ => by simpa using HT.out
      have HQ := Lib.hid hq
      clear hq hlt
      go_wp2
      go_ret
      exact ⟨ret_bool (by rw [HQ.out]), rfl⟩

end Go.Proofs.YtolbhjjcabiabaaGreatDoor

/- Walks: package quote's bytes and forms. -/
set_option linter.unusedVariables false
set_option linter.unusedSimpArgs false
namespace Go.Proofs.YtolbhjjcabiabaaGreatDoor
open Go.RowKit

theorem bare_any (c : UInt8) (w : World) :
    Calls Tryz.prog 101 #[.int .u8 (c.toNat : Int)] w fun e w' => e = .returned (.bool (bareB c)) ∧ w = w' := by
  have h0 : (0 : Int) ≤ c.toNat := by omega
  go_enter Tryz.func101, Tryz.ntmps101
  go_wp2
  all_goals (go_ret; refine ⟨ret_bool ?_, rfl⟩; rw [Bool.eq_iff_iff]; simp [bareB]; omega)

theorem Tryz.info5 : (Tryz.prog.info? 5).map (fun i => (i.zero, i.size, i.bytes)) = some (some (.int .u8 0), 1, 1) := by kernel_rfl

set_option maxHeartbeats 1000000 in
theorem Quote_any (l : List UInt8) (w : World) (hl : l.length ≤ 1000000) :
    Calls Tryz.prog 81 #[.string ⟨l.toArray⟩] w fun e w' => e = .returned (.string ⟨(quoteB l).toArray⟩) ∧ Below w.heap.size w w' := by
  obtain ⟨i0, hi, hz0, hz1, hz2⟩ := info_parts Tryz.info5
  go_enter Tryz.func81, Tryz.ntmps81
  go_wp2_with (first | (at_make; (refine wpList_make_own _ rfl _ _ 60 rfl w.heap.size 5 i0 (.int .u8 0) 1 Tryz.underlying60 hi hz0 hz1 _ _ _ (l.length + 2) rfl rfl (by omega) (by rw [hz2]; omega) (by unfold maxLen; omega) (Nat.le_refl _) ?_); intro w1 hown1 hgr1) | (at_builtin; (refine wpList_append_new rfl (.tmp 9) (.tmp 10) 60 5 rfl Tryz.underlying60 hi hz0 hz1 hz2 rfl (by decide) (by decide) w.heap.size _ 1 rfl rfl hown1 rfl (by simp [Value.oneCell']) (by omega) hgr1.size ?_); intro v2 w2 hown2 hgr2))
  have B2 : Below w.heap.size w w2 := ((Below.refl _ _).grown hgr1 (Nat.le_refl _) (by simp)).trans hgr2
  simp only [Nat.zero_add, List.nil_append] at hown2
  clear hown1 hgr1 hgr2
  go_loopw [3, 14] (fun v i wr => ∃ k : Nat, k ≤ l.length ∧ i = .int .i64 k ∧ wr.ownsRow w.heap.size 5 1 v (1 + (formsB (l.take k)).length) (bytesV (34 :: formsB (l.take k))) ∧ Below w.heap.size w wr) (fun _ i _ => l.length - (intOf i).toNat)
  case atStart => exact ⟨0, Nat.zero_le _, rfl, hown2, B2⟩
  case round =>
    obtain ⟨k, hk, rfl, hown, hb⟩ := hrel
    by_cases hlt : k < l.length
    · have hsn := Lib.hid (formsB_snoc l k hlt)
      have hfl := formsB_take_len l k
      have hc := l[k].toNat_lt
      have q0 : (0 : Int) ≤ (l[k].toNat : Int) / 16 := by omega
      have q1 : (l[k].toNat : Int) / 16 < 16 := by omega
      have e15 := bits_and15 l[k].toNat hc
      have r0 : (0 : Int) ≤ (l[k].toNat : Int) % 16 := by omega
      have r1 : (l[k].toNat : Int) % 16 < 16 := by omega
      cases hbk : bareB l[k]
      · go_wp2_with (first | (go_at_call 101; refine (bare_any _ _).mono ?_; rintro e w' ⟨rfl, rfl⟩))
        go_region_held3 (fun w' => True) (exact trivial) ((refine step_append_own (by rfl) (.tmp 27) (.tmp 38) 60 5 (by rfl) Tryz.underlying60 hi hz0 hz1 hz2 rfl (by decide) (by decide) w.heap.size _ 4 _ (by rfl) (by rfl) (hown.alloc _).drew (by rfl) (cells_block _ _ _) (by simp [Value.oneCell']) (by omega) (by have := hb.size; simp; omega) ?_; intro v3 w3 hown3 hb3))
        all_goals
          go_wp2
          go_roundw
          case rel =>
            have g1 := hex_at (l[k].toNat / 16) ((l[k].toNat : Int) / 16) (by omega) (by simp [hexDigits]; omega)
            have g2 := hex_at (l[k].toNat % 16) ((l[k].toNat : Int) % 16) (by omega) (by simp [hexDigits]; omega)
            unfold hexDigits at g1 g2
            rw [g1, g2] at hown3
            refine ⟨k + 1, by omega, by go_num, ?_, hb.trans (((Below.refl _ _).alloc hb.size _).drew.trans hb3)⟩
            rw [hsn.out, formB_hex hbk]; simpa [bytesV, Nat.add_assoc] using hown3
          case measure => simp [intOf]; omega
      · go_wp2_with (first | (go_at_call 101; refine (bare_any _ _).mono ?_; rintro e w' ⟨rfl, rfl⟩) | (at_builtin; refine wpList_append_new rfl (.tmp 21) (.tmp 25) 60 5 rfl Tryz.underlying60 hi hz0 hz1 hz2 rfl (by decide) (by decide) w.heap.size _ 1 rfl rfl hown rfl (by simp [Value.oneCell']) (by omega) hb.size ?_; intro v3 w3 hown3 hb3))
        go_roundw
        case rel => exact ⟨k + 1, by omega, by go_num, by rw [hsn.out, formB_bare hbk]; simpa [bytesV, Nat.add_assoc] using hown3, hb.trans hb3⟩
        case measure => simp [intOf]; omega
    · obtain rfl : k = l.length := by omega
      rw [List.take_length] at hown
      have hfl := formsB_len l
      go_wp2_with (first | (at_builtin; refine wpList_append_new rfl (.tmp 41) (.tmp 42) 60 5 rfl Tryz.underlying60 hi hz0 hz1 hz2 rfl (by decide) (by decide) w.heap.size _ 1 rfl rfl hown rfl (by simp [Value.oneCell']) (by omega) hb.size ?_; intro v3 w3 hown3 hb3; have hcv := run_own_string (P := Tryz.prog) (l := quoteB l) 60 9 Tryz.underlying60 Tryz.underlying5 Tryz.underlying9 (by simpa [bytesV, quoteB] using hown3)))
      go_ret
      exact ⟨rfl, hb.trans hb3⟩

end Go.Proofs.YtolbhjjcabiabaaGreatDoor

/- Walks: quote.first. -/
set_option linter.unusedVariables false
set_option linter.unusedSimpArgs false
namespace Go.Proofs.YtolbhjjcabiabaaGreatDoor
open Go.RowKit

def ixB (c : UInt8) : Int := if idx16 c < 16 then (idx16 c : Int) else -1
theorem ixB_lib_all : ∀ n : Fin 256, Lib.indexByte hexDigits (UInt8.ofNat n.val) = ixB (UInt8.ofNat n.val) := by decide +kernel
theorem ixB_lib (c : UInt8) : Lib.indexByte hexDigits c = ixB c := by
  have := ixB_lib_all ⟨c.toNat, c.toNat_lt⟩
  simpa using this
theorem or_all : ∀ (h l : Fin 16), bits BinOp.or IntKind.i64 (((h.val : Nat) : Int) * 16) ((l.val : Nat) : Int) = ((h.val : Nat) : Int) * 16 + ((l.val : Nat) : Int) := by decide +kernel

theorem hexIndex_any (c : UInt8) (w : World) :
    Calls Tryz.prog 78 #[.string ⟨#[48, 49, 50, 51, 52, 53, 54, 55, 56, 57, 97, 98, 99, 100, 101, 102]⟩, .int .u8 (c.toNat : Int)] w fun e w' => e = .returned (.int .i64 (ixB c)) ∧ w' = w := by
  have := Tryz.strings_IndexByte ⟨#[48, 49, 50, 51, 52, 53, 54, 55, 56, 57, 97, 98, 99, 100, 101, 102]⟩ (c.toNat : Int) w
  have e : (c.toNat : Int).toNat.toUInt8 = c := by simp
  rw [e] at this
  rw [← ixB_lib]; exact this

def firstR (l : List UInt8) : UInt8 × Nat := (firstB l).getD (0, 0)

def firstV (l : List UInt8) : Value := .tuple #[.int .u8 ((firstR l).1.toNat : Int), .int .i64 ((firstR l).2 : Int)]
theorem firstV_none {l : List UInt8} (h : firstB l = none) : firstV l = .tuple #[.int .u8 0, .int .i64 0] := by simp [firstV, firstR, h]
theorem firstV_some {l : List UInt8} {b : UInt8} {k : Nat} (h : firstB l = some (b, k)) : firstV l = .tuple #[.int .u8 (b.toNat : Int), .int .i64 (k : Int)] := by simp [firstV, firstR, h]

theorem ixB_lt {c : UInt8} (h : ixB c < 0) : ¬ idx16 c < 16 := by
  unfold ixB at h; split at h <;> omega
theorem ixB_ge {c : UInt8} (h : ¬ ixB c < 0) : idx16 c < 16 ∧ ixB c = idx16 c := by
  unfold ixB at h ⊢; split at h
  · rename_i g; exact ⟨g, by rw [if_pos g]⟩
  · omega
theorem or_at {h l : Nat} (hh : h < 16) (hl : l < 16) : bits BinOp.or IntKind.i64 (wrap64 ((h : Int) * 16)) (l : Int) % 256 = ((16 * h + l).toUInt8.toNat : Int) := by
  rw [IntWalk.wrap64_in _ (by omega), byte_join hh hl, or_all ⟨h, hh⟩ ⟨l, hl⟩]
  show ((h : Int) * 16 + (l : Int)) % 256 = _
  omega
theorem firstB_four (c e h lo : UInt8) (t : List UInt8) (hc : bareB c = false) : firstB (c :: e :: h :: lo :: t) = if c = 92 ∧ e = 120 ∧ idx16 h < 16 ∧ idx16 lo < 16 ∧ bareB (16 * idx16 h + idx16 lo).toUInt8 = false then some ((16 * idx16 h + idx16 lo).toUInt8, 4) else none := by
  have hE : firstB (c :: e :: h :: lo :: t) = if bareB c = true then some (c, 1) else if c = 92 ∧ e = 120 ∧ idx16 h < 16 ∧ idx16 lo < 16 ∧ bareB (16 * idx16 h + idx16 lo).toUInt8 = false then some ((16 * idx16 h + idx16 lo).toUInt8, 4) else none := rfl
  rw [hE, if_neg (by simp [hc])]

set_option maxHeartbeats 1600000 in
/-- Where the form is of four bytes. -/
theorem first_four (c e h lo : UInt8) (t : List UInt8) (hc : bareB c = false) (w : World) (hl : t.length ≤ 1000000) :
    Calls Tryz.prog 95 #[.string ⟨(c :: e :: h :: lo :: t).toArray⟩] w fun x w' => x = .returned (firstV (c :: e :: h :: lo :: t)) ∧ Below w.heap.size w w' := by
  have hF := Lib.hid (firstB_four c e h lo t hc)
  cases h1 : ((c.toNat : Int) != 92)
  · cases h2 : ((e.toNat : Int) != 120)
    · have hce : Hid (c = 92 ∧ e = 120) := by
        refine ⟨UInt8.toNat_inj.1 ?_, UInt8.toNat_inj.1 ?_⟩ <;> simp at h1 h2 <;> simp <;> omega
      by_cases h3 : ixB h < 0
      · have hV := Lib.hid (firstV_none (hF.out.trans (if_neg (fun g => ixB_lt h3 g.2.2.1))))
        clear hF hce
        go_enter Tryz.func95, Tryz.ntmps95
        go_wp2_with (first | (go_at_call 101; refine (bare_any _ _).mono ?_; rintro e w' ⟨rfl, rfl⟩))
        go_quiet ((go_at_call 78; exact Calls.quiet_of_same (hexIndex_any _ _)))
        go_wp2
        go_ret2
        exact ⟨by rw [hV.out]; rfl, below_drewN (Below.refl _ _) _⟩
      · by_cases h4 : ixB lo < 0
        · have hV := Lib.hid (firstV_none (hF.out.trans (if_neg (fun g => ixB_lt h4 g.2.2.2.1))))
          clear hF hce
          go_enter Tryz.func95, Tryz.ntmps95
          go_wp2_with (first | (go_at_call 101; refine (bare_any _ _).mono ?_; rintro e w' ⟨rfl, rfl⟩))
          go_quiet ((go_at_call 78; exact Calls.quiet_of_same (hexIndex_any _ _)))
          go_wp2
          go_ret2
          exact ⟨by rw [hV.out]; rfl, below_drewN (Below.refl _ _) _⟩
        · obtain ⟨i3, e3⟩ := ixB_ge h3
          obtain ⟨i4, e4⟩ := ixB_ge h4
          have hO := or_at i3 i4
          rw [← e3, ← e4] at hO
          have HO := Lib.hid hO
          have E3 := Lib.hid e3
          have E4 := Lib.hid e4
          clear e3 e4 hO
          obtain ⟨b, hb⟩ : ∃ b, b = (16 * idx16 h + idx16 lo).toUInt8 := ⟨_, rfl⟩
          rw [← hb] at HO hF
          have HB := Lib.hid hb
          clear hb
          cases hbb : bareB b
          · have hV := Lib.hid (firstV_some (hF.out.trans (if_pos ⟨hce.out.1, hce.out.2, i3, i4, hbb⟩)))
            clear hF hce
            go_enter Tryz.func95, Tryz.ntmps95
            go_wp2_with (first | (go_at_call 101; refine (bare_any _ _).mono ?_; rintro e w' ⟨rfl, rfl⟩))
            go_quiet ((go_at_call 78; exact Calls.quiet_of_same (hexIndex_any _ _)))
            go_wp2_with fail
            rw [HO.out]
            refine (bare_any _ _).mono ?_
            rintro x w' ⟨rfl, rfl⟩
            go_wp2
            go_ret2
            exact ⟨by rw [hV.out]; rfl, below_drewN (Below.refl _ _) _⟩
          · have hV := Lib.hid (firstV_none (hF.out.trans (if_neg (fun g => by rw [hbb] at g; exact absurd g.2.2.2.2 (by decide)))))
            clear hF hce
            go_enter Tryz.func95, Tryz.ntmps95
            go_wp2_with (first | (go_at_call 101; refine (bare_any _ _).mono ?_; rintro e w' ⟨rfl, rfl⟩))
            go_quiet ((go_at_call 78; exact Calls.quiet_of_same (hexIndex_any _ _)))
            go_wp2_with fail
            rw [HO.out]
            refine (bare_any _ _).mono ?_
            rintro x w' ⟨rfl, rfl⟩
            go_wp2
            go_ret2
            exact ⟨by rw [hV.out]; rfl, below_drewN (Below.refl _ _) _⟩
    · have hV := Lib.hid (firstV_none (hF.out.trans (if_neg (fun g => by rw [g.2.1] at h2; exact absurd h2 (by decide)))))
      clear hF
      go_enter Tryz.func95, Tryz.ntmps95
      go_wp2_with (first | (go_at_call 101; refine (bare_any _ _).mono ?_; rintro e w' ⟨rfl, rfl⟩))
      go_ret2
      exact ⟨by rw [hV.out]; rfl, Below.refl _ _⟩
  · have hV := Lib.hid (firstV_none (hF.out.trans (if_neg (fun g => by rw [g.1] at h1; exact absurd h1 (by decide)))))
    clear hF
    go_enter Tryz.func95, Tryz.ntmps95
    go_wp2_with (first | (go_at_call 101; refine (bare_any _ _).mono ?_; rintro e w' ⟨rfl, rfl⟩))
    go_ret2
    exact ⟨by rw [hV.out]; rfl, Below.refl _ _⟩

theorem first_bare (c : UInt8) (t : List UInt8) (hc : bareB c = true) (w : World) (hl : t.length ≤ 1000000) :
    Calls Tryz.prog 95 #[.string ⟨(c :: t).toArray⟩] w fun x w' => x = .returned (firstV (c :: t)) ∧ Below w.heap.size w w' := by
  have hV := Lib.hid (firstV_some (show firstB (c :: t) = some (c, 1) by simp [firstB, hc]))
  go_enter Tryz.func95, Tryz.ntmps95
  go_wp2_with (first | (go_at_call 101; refine (bare_any _ _).mono ?_; rintro e w' ⟨rfl, rfl⟩))
  go_ret2
  exact ⟨by rw [hV.out]; rfl, Below.refl _ _⟩

theorem first_short (c : UInt8) (t : List UInt8) (hc : bareB c = false) (w : World) (hl : t.length < 3) :
    Calls Tryz.prog 95 #[.string ⟨(c :: t).toArray⟩] w fun x w' => x = .returned (firstV (c :: t)) ∧ Below w.heap.size w w' := by
  have h0 : firstB (c :: t) = none := by
    match t, hl with
    | [], _ => simp [firstB, hc]
    | [_], _ => simp [firstB, hc]
    | [_, _], _ => simp [firstB, hc]
  have hV := Lib.hid (firstV_none h0)
  clear h0
  go_enter Tryz.func95, Tryz.ntmps95
  go_wp2_with (first | (go_at_call 101; refine (bare_any _ _).mono ?_; rintro e w' ⟨rfl, rfl⟩))
  go_ret2
  exact ⟨by rw [hV.out]; rfl, Below.refl _ _⟩

theorem first_any (l : List UInt8) (hn : l ≠ []) (w : World) (hl : l.length ≤ 1000000) :
    Calls Tryz.prog 95 #[.string ⟨l.toArray⟩] w fun x w' => x = .returned (firstV l) ∧ Below w.heap.size w w' := by
  match l, hn with
  | c :: t, _ =>
    cases hc : bareB c
    · by_cases h3 : t.length < 3
      · exact first_short c t hc w h3
      · match t, h3 with
        | e :: h :: lo :: t, _ => exact first_four c e h lo t hc w (by simp at hl; omega)
        | [], h3 => exact absurd (by simp) h3
        | [_], h3 => exact absurd (by simp) h3
        | [_, _], h3 => exact absurd (by simp) h3
    · exact first_bare c t hc w (by simp at hl; omega)
end Go.Proofs.YtolbhjjcabiabaaGreatDoor

/- strings.Builder, by the library's contracts: laid, grown, written, read. -/
set_option linter.unusedVariables false
set_option linter.unusedSimpArgs false
namespace Go.Proofs.YtolbhjjcabiabaaGreatDoor
open Go.RowKit

/-- A builder of the call's own (block b, from B on) that holds these bytes. -/
def BldW (B b : Nat) (l : List UInt8) (w : World) : Prop := Lib.IsBuilder 62 5 B b (bytesV l) w
theorem BldW.lt {B b : Nat} {l : List UInt8} {w : World} (h : BldW B b l w) : b < w.heap.size := by
  rcases h with h | h
  · exact h.lt
  · exact h.lt
theorem bldAt_next {T e : TypeId} {B b : Nat} {p : Value} {bs : List Value} {w w' : World} (h : Lib.BuilderAt T e B b p bs w) (hb : Below w.heap.size w w') : Lib.BuilderAt T e B b p bs w' := by
  have hlt := h.lt
  obtain ⟨h1, v, h2, h3, h4⟩ := h
  exact ⟨h1, v, (hb.block b hlt).trans h2, own_keep h3 hb, h4⟩
theorem BldW.next {B b : Nat} {l : List UInt8} {w w' : World} (h : BldW B b l w) (hb : Below w.heap.size w w') : BldW B b l w' := by
  rcases h with h | h
  · exact .inl (bldAt_next h hb)
  · exact .inr (bldAt_next h hb)
theorem bld_new (w : World) : BldW w.heap.size w.heap.size [] (w.alloc (.cells #[.pointer none, .slice none 0 0] 62)) :=
  .inl ⟨Nat.le_refl _, .slice none 0 0, World.alloc_heap_new w _, World.ownsRow_nil _ _ _ _, by simp [Value.ownBlock]⟩
set_option maxHeartbeats 2000000 in
set_option maxRecDepth 100000 in
theorem bldByte_any (B b : Nat) (l : List UInt8) (c : UInt8) (w : World) (h : BldW B b l w) (hlen : l.length ≤ 1000000000) (hBw : B ≤ w.heap.size) :
    Calls Tryz.prog 64 #[.pointer (some ⟨b, 0, none⟩), .int .u8 c.toNat] w fun e w' => e = .returned .nilIface ∧ BldW B b (l ++ [c]) w' ∧ Below B w w' := by
  obtain ⟨i0, hi, hz0, hz1, hz2⟩ := info_parts Tryz.infoByte
  go_enter Tryz.func64, Tryz.ntmps64
  go_wp2_with fail
  refine (copyCheck_any B b _ _ h).mono ?_
  rintro e w1 ⟨rfl, h1, hb1⟩
  obtain ⟨hB, v, hbk, hown, hne⟩ := h1
  have hsz1 := hb1.size
  have hll := bytesV_len l
  have hlt : b < w1.heap.size := by
    rcases Nat.lt_or_ge b w1.heap.size with h' | h'
    · exact h'
    · simp [Array.getElem?_eq_none h'] at hbk
  have c0 : w1.cell? ⟨b, 0, none⟩ = some (.pointer (some ⟨b, 0, none⟩)) := by rw [Lib.cell_of_heap hbk]; rfl
  have c1 : w1.cell? ⟨b, 1, none⟩ = some v := by rw [Lib.cell_of_heap hbk]; rfl
  go_wp2_with (at_builtin; refine wpList_append_near rfl (.tmp 11) (.tmp 13) 60 5 rfl Tryz.underlying60 hi hz0 hz1 hz2 rfl (by decide) (by decide) B #[.int .u8 c.toNat] 1 rfl rfl hown rfl (by simp [Value.oneCell']) (by omega) (by omega) ?_)
  intro v' w2 hown' hgrow
  have hb2 : w2.heap[b]? = some (.cells #[.pointer (some ⟨b, 0, none⟩), v] 62 (0, 0)) := by
    rw [hgrow.block b (by simp; omega) (fun e => hne e.symm), Below.heap_alloc _ _ _ hlt]
    exact hbk
  have d0 : w2.cell? ⟨b, 0, none⟩ = some (.pointer (some ⟨b, 0, none⟩)) := by rw [Lib.cell_of_heap hb2]; rfl
  have d1 : w2.cell? ⟨b, 1, none⟩ = some v := by rw [Lib.cell_of_heap hb2]; rfl
  have f1 : w2.frozen? ⟨b, 1, none⟩ = false := Lib.frozen_of_heap hb2 1
  obtain ⟨ao, n', cap, rfl⟩ : ∃ ao n' cap, v' = .slice ao n' cap := by
    rcases hown'.2 with ⟨hv, _⟩ | ⟨g, cap, cur, hv, _⟩
    · exact ⟨_, _, _, hv⟩
    · exact ⟨_, _, _, hv⟩
  go_wp2
  go_ret
  refine ⟨rfl, .inr ?_, ?_⟩
  · exact Lib.BuilderAt.put (T := 62) (e := 5) hB hb2 (bs' := bytesV (l ++ [c])) (by simpa [bytesV] using hown') (by decide)
  · exact ((hb1.alloc (by omega) _).grown hgrow (by simp; omega) (fun k hk => (hown.lt k hk).1)).setCell (p := ⟨b, 1, none⟩) hB _
theorem bldText_any (B b : Nat) (l s : List UInt8) (w : World) (h : BldW B b l w) (hlen : l.length + s.length ≤ 1000000000) (hBw : B ≤ w.heap.size) :
    Calls Tryz.prog 37 #[.pointer (some ⟨b, 0, none⟩), .string ⟨s.toArray⟩] w fun e w' => e = .returned (.tuple #[.int .i64 s.length, .nilIface]) ∧ BldW B b (l ++ s) w' ∧ Below B w w' := WriteString_any B b l s w h hlen hBw
theorem bldString_any (B b : Nat) (l : List UInt8) (w : World) (h : BldW B b l w) (hBw : B ≤ w.heap.size) :
    Calls Tryz.prog 40 #[.pointer (some ⟨b, 0, none⟩)] w fun e w' => e = .returned (.string ⟨l.toArray⟩) ∧ Below B w w' := Tryz.Builder_String_any B b l w h hBw
end Go.Proofs.YtolbhjjcabiabaaGreatDoor

/- strings.Builder: Grow of a builder that was not written. -/
set_option linter.unusedVariables false
set_option linter.unusedSimpArgs false
namespace Go.Proofs.YtolbhjjcabiabaaGreatDoor
open Go.RowKit

theorem bldGrow_any (n : Nat) (w : World) (hn : n ≤ 1000000000) :
    Calls Tryz.prog 94 #[.pointer (some ⟨w.heap.size, 0, none⟩), .int .i64 n] (w.alloc (.cells #[.pointer none, .slice none 0 0] 62)) fun e w' => e = .returned (.tuple #[]) ∧ BldW w.heap.size w.heap.size [] w' ∧ Below w.heap.size w w' := by
  have B0 : Below w.heap.size w (w.alloc (.cells #[.pointer none, .slice none 0 0] 62)) := (Below.refl _ w).alloc (Nat.le_refl _) _
  refine (Tryz.Builder_Grow_fresh w.heap.size w.heap.size n _ (Nat.le_refl _) (World.alloc_heap_new w _) (by simp) (by omega)).mono ?_
  rintro e w' ⟨rfl, h1, h2⟩
  exact ⟨rfl, .inr h1, B0.trans h2⟩
end Go.Proofs.YtolbhjjcabiabaaGreatDoor

/- Walks: quote.Unquote, quote.word. -/
set_option linter.unusedVariables false
set_option linter.unusedSimpArgs false
namespace Go.Proofs.YtolbhjjcabiabaaGreatDoor
open Go.RowKit

attribute [go_sem] ByteArray.extract_mk

def unqV (l : List UInt8) : Value := .tuple #[.string ⟨((unquoteB l).getD []).toArray⟩, .bool (unquoteB l).isSome]
theorem unqV_none {l : List UInt8} (h : unquoteB l = none) : unqV l = .tuple #[.string ⟨#[]⟩, .bool false] := by simp [unqV, h]
theorem unqV_some {l x : List UInt8} (h : unquoteB l = some x) : unqV l = .tuple #[.string ⟨x.toArray⟩, .bool true] := by simp [unqV, h]
theorem unq_short {l : List UInt8} (h : l.length < 2) : unquoteB l = none := by
  refine unquoteB_none fun x e => ?_
  rw [← e] at h; simp [quoteB] at h; omega
theorem unq_first {c : UInt8} {t : List UInt8} (h : c ≠ 34) : unquoteB (c :: t) = none := by
  refine unquoteB_none fun x e => h ?_
  simp only [quoteB, List.cons.injEq] at e; exact e.1.symm
theorem unq_last {c d : UInt8} {t : List UInt8} (h : d ≠ 34) : unquoteB (c :: (t ++ [d])) = none := by
  refine unquoteB_none fun x e => h ?_
  simp only [quoteB, List.cons.injEq] at e
  have := congrArg List.getLast? e.2
  simp at this; exact this.symm
theorem unq_all {x m : List UInt8} (h : formsB x = m) : unquoteB (34 :: (m ++ [34])) = some x := unquoteB_of (by rw [quoteB, h])
theorem unq_stop {x r m : List UInt8} (h : formsB x ++ r = m) (hr : r ≠ []) (hf : firstB r = none) : unquoteB (34 :: (m ++ [34])) = none := by
  refine unquoteB_none fun y e => ?_
  simp only [quoteB, List.cons.injEq, true_and] at e
  have e2 := List.append_cancel_right e
  rw [← h] at e2
  obtain ⟨z, rfl, hz⟩ := formsB_split _ _ _ e2
  cases z with
  | nil => exact hr hz.symm
  | cons b z => rw [← hz, formsB_cons, firstB_form] at hf; cases hf
theorem forms_step {x r m : List UInt8} {b : UInt8} {k : Nat} (h : formsB x ++ r = m) (hf : firstB r = some (b, k)) : formsB (x ++ [b]) ++ r.drop k = m ∧ 1 ≤ k ∧ k ≤ r.length := by
  obtain ⟨rfl, h2⟩ := firstB_some hf
  have h3 := congrArg List.length h2
  simp at h3
  have h4 := formB_pos b
  refine ⟨?_, h4, ?_⟩
  · rw [formsB_append, ← h]; conv => rhs; rw [h2]
    simp [formsB]
  · have : (r.drop (formB b).length).length = r.length - (formB b).length := List.length_drop
    omega
theorem forms_len {x r m : List UInt8} (h : formsB x ++ r = m) : x.length + r.length ≤ m.length := by
  rw [← h, List.length_append]
  have : x.length ≤ (formsB x).length := by
    clear h
    induction x with
    | nil => simp
    | cons b x ih => rw [formsB_cons]; have := formB_pos b; simp; omega
  omega

def strLenQ : Value → Nat | .string s => s.size | _ => 0

theorem Unquote_no (l : List UInt8) (w : World) (hl : l.length ≤ 1000000) (hn : l.length < 2 ∨ ∃ c t d, l = c :: (t ++ [d]) ∧ (c ≠ 34 ∨ d ≠ 34)) :
    Calls Tryz.prog 74 #[.string ⟨l.toArray⟩] w fun e w' => e = .returned (unqV l) ∧ Below w.heap.size w w' := by
  rcases hn with hn | ⟨c, t, d, rfl, hn⟩
  · have hV := Lib.hid (unqV_none (unq_short hn))
    go_enter Tryz.func74, Tryz.ntmps74
    go_wp2
    go_ret2
    exact ⟨by rw [hV.out]; rfl, Below.refl _ _⟩
  · cases h1 : ((c.toNat : Int) != 34)
    · have hc : c = 34 := UInt8.toNat_inj.1 (by simp at h1; simp; omega)
      have hd : d ≠ 34 := hn.resolve_left (by simp [hc])
      have hV := Lib.hid (unqV_none (unq_last (c := c) (t := t) hd))
      have h2 : ((d.toNat : Int) != 34) = true := by
        rw [bne_iff_ne]; intro e; exact hd (UInt8.toNat_inj.1 (by simp; omega))
      clear hn hc hd
      have ht : t.length ≤ 1000000 := by simp at hl; omega
      go_enter Tryz.func74, Tryz.ntmps74
      go_wp2
      go_ret2
      exact ⟨by rw [hV.out]; rfl, Below.refl _ _⟩
    · have hc : c ≠ 34 := by rintro rfl; simp at h1
      have hV := Lib.hid (unqV_none (unq_first (t := t ++ [d]) hc))
      clear hn hc
      go_enter Tryz.func74, Tryz.ntmps74
      go_wp2
      go_ret2
      exact ⟨by rw [hV.out]; rfl, Below.refl _ _⟩

set_option maxHeartbeats 800000 in
theorem Unquote_yes (m : List UInt8) (w : World) (hl : m.length ≤ 1000000) :
    Calls Tryz.prog 74 #[.string ⟨(34 :: (m ++ [34])).toArray⟩] w fun e w' => e = .returned (unqV (34 :: (m ++ [34]))) ∧ Below w.heap.size w w' := by
  go_enter Tryz.func74, Tryz.ntmps74
  go_wp2_with fail
  refine (bldGrow_any m.length w (by omega)).mono ?_
  rintro e w1 ⟨rfl, hg1, B1⟩
  go_wp2
  go_loopw [4] (fun rest wr => ∃ x r : List UInt8, rest = .string ⟨r.toArray⟩ ∧ BldW w.heap.size w.heap.size x wr ∧ formsB x ++ r = m ∧ Below w.heap.size w wr) (fun rest _ => strLenQ rest)
  case atStart => exact ⟨[], m, by simp, hg1, rfl, B1⟩
  case round =>
    obtain ⟨x, r, rfl, hown, hm, hb⟩ := hrel
    have hxr := forms_len hm
    have HM := Lib.hid hm
    clear hm
    by_cases hr : r = []
    · subst hr
      have hV := Lib.hid (unqV_some (unq_all (by simpa using HM.out)))
      go_wp2_with fail
      refine (bldString_any w.heap.size w.heap.size x _ hown hb.size).mono ?_
      rintro e w2 ⟨rfl, b2⟩
      go_wp2
      go_ret2
      exact ⟨by rw [hV.out]; rfl, hb.trans b2⟩
    · have hre : r.isEmpty = false := by simpa using hr
      cases hf : firstB r with
      | none =>
        have hV := Lib.hid (unqV_none (unq_stop HM.out hr hf))
        have hF := Lib.hid (firstV_none hf)
        clear hf HM
        go_wp2_with fail
        refine (first_any r hr _ (by omega)).mono ?_
        rintro e w' ⟨rfl, hB⟩
        rw [hF.out]
        go_wp2
        go_ret2
        exact ⟨by rw [hV.out]; rfl, hb.trans (hB.mono hb.size)⟩
      | some bk =>
        obtain ⟨b, k⟩ := bk
        obtain ⟨hs, hk1, hk2⟩ := forms_step HM.out hf
        have HS := Lib.hid hs
        have hF := Lib.hid (firstV_some hf)
        clear hf HM hs
        have hsz : (r.drop k).length < r.length := by rw [List.length_drop]; omega
        go_wp2_with fail
        refine (first_any r hr _ (by omega)).mono ?_
        rintro e w' ⟨rfl, hB⟩
        rw [hF.out]
        have hb2 := hb.trans (hB.mono hb.size)
        have hown2 := hown.next hB
        clear hb hown hB hF
        go_wp2_with fail
        refine (bldByte_any w.heap.size w.heap.size x b _ hown2 (by omega) hb2.size).mono ?_
        rintro e w3 ⟨rfl, hown3, hb3⟩
        go_wp2
        go_roundw
        case rel => exact ⟨x ++ [b], r.drop k, by simp, hown3, HS.out, hb2.trans hb3⟩
        case measure => simp [strLenQ, ByteArray.size]; omega

theorem Unquote_any (l : List UInt8) (w : World) (hl : l.length ≤ 1000000) :
    Calls Tryz.prog 74 #[.string ⟨l.toArray⟩] w fun e w' => e = .returned (unqV l) ∧ Below w.heap.size w w' := by
  by_cases h2 : l.length < 2
  · exact Unquote_no l w hl (.inl h2)
  · match l, h2 with
    | c :: r, h2 =>
      have hne : r ≠ [] := by rintro rfl; simp at h2
      have hr := List.dropLast_concat_getLast hne
      generalize r.dropLast = t at hr
      generalize r.getLast hne = d at hr
      subst hr
      by_cases hc : c = 34 ∧ d = 34
      · obtain ⟨rfl, rfl⟩ := hc
        exact Unquote_yes t w (by simp at hl; omega)
      · refine Unquote_no _ w hl (.inr ⟨c, t, d, rfl, ?_⟩)
        rcases Decidable.em (c = 34) with h | h
        · exact .inr fun e => hc ⟨h, e⟩
        · exact .inl h

theorem word_any (l : List UInt8) (w : World) (hl : l.length ≤ 1000000) :
    Calls Tryz.prog 71 #[.string ⟨l.toArray⟩] w fun e w' => e = .returned (.bool (wordB l)) ∧ Below w.heap.size w w' := by
  cases hp : plainQ l
  · have hW := Lib.hid (show wordB l = (unquoteB l).isSome by simp [wordB, hp])
    go_enter Tryz.func71, Tryz.ntmps71
    go_wp2_with fail
    refine (PlainQ_any l _ hl).mono ?_
    rintro e w' ⟨rfl, rfl⟩
    rw [hp]
    go_wp2_with fail
    refine (Unquote_any l _ hl).mono ?_
    rintro e w' ⟨rfl, hB⟩
    unfold unqV
    go_wp2
    go_ret
    exact ⟨by rw [hW.out]; rfl, hB⟩
  · have hW := Lib.hid (show wordB l = true by simp [wordB, hp])
    go_enter Tryz.func71, Tryz.ntmps71
    go_wp2_with fail
    refine (PlainQ_any l _ hl).mono ?_
    rintro e w' ⟨rfl, rfl⟩
    rw [hp]
    go_wp2
    go_ret
    exact ⟨by rw [hW.out]; rfl, Below.refl _ _⟩
end Go.Proofs.YtolbhjjcabiabaaGreatDoor

/- Walks: quote.Split. -/
set_option linter.unusedVariables false
set_option linter.unusedSimpArgs false
namespace Go.Proofs.YtolbhjjcabiabaaGreatDoor
open Go.RowKit

/-- What is left of a call that answers texts, and whether there are any. -/
def StrsPost (w : World) (o : Option (List (List UInt8))) (e : Ending) (w' : World) : Prop :=
  ∃ v, e = .returned (.tuple #[v, .bool o.isSome]) ∧ w'.ownsRow w.heap.size 9 1 v (o.getD []).length (strsV (o.getD [])) ∧ Below w.heap.size w w'
theorem StrsPost.none_ {w w' : World} {o : Option (List (List UInt8))} {e : Ending} (h : o = none) (he : e = .returned (.tuple #[.slice none 0 0, .bool false])) (hb : Below w.heap.size w w') : StrsPost w o e w' :=
  ⟨.slice none 0 0, by rw [he, h]; rfl, by rw [h]; exact World.ownsRow_nil _ _ _ _, hb⟩

theorem Tryz.infoSQ : (Tryz.prog.info? 9).map (fun i => (i.zero, i.size, i.bytes)) = some (some (.string ByteArray.empty), 1, 16) := by kernel_rfl

set_option maxHeartbeats 2000000 in
theorem Split_any (l : List UInt8) (w : World) (hl : l.length ≤ 1000000) : Calls Tryz.prog 43 #[.string ⟨l.toArray⟩] w (StrsPost w (splitB l)) := by
  by_cases hn : l = []
  · subst hn
    go_enter Tryz.func43, Tryz.ntmps43
    go_wp2
    go_step3
    go_wp2
    try rw [Exit.noGoto_ret]
    go_ret2
    exact ⟨_, rfl, World.ownsRow_nil _ _ _ _, Below.refl _ _⟩
  · obtain ⟨is, hsi, hs0, hs1, hs2⟩ := info_parts Tryz.infoSQ
    have hne : l.isEmpty = false := by simpa using hn
    go_enter Tryz.func43, Tryz.ntmps43
    go_wp2
    go_step3
    go_wp2
    go_step3
    go_wp2
    go_loopg [4, 5, 6] l.length (fun g s4 s5 s6 wr => ∃ (ws : List (List UInt8)) (r : List UInt8), s5 = .string ⟨r.toArray⟩ ∧ s6 = .bool false ∧ r.length = g ∧ ws.length + r.length ≤ l.length ∧ wr.ownsRow w.heap.size 9 1 s4 ws.length (strsV ws) ∧ Aside (cutF false l = ws ++ cutF false r ∧ ∀ x ∈ ws, wordB x = true) ∧ Below w.heap.size w wr)
    case atStart => exact ⟨[], l, rfl, rfl, rfl, by simp, World.ownsRow_nil _ _ _ _, ⟨rfl, by simp⟩, Below.refl _ _⟩
    case round =>
      obtain ⟨ws, r, rfl, rfl, rfl, hlen, hown, HA, hb⟩ := hrel
      have hb0 := Lib.hid hb
      have HS0 := Lib.hid (cut_start r)
      clear hb
      go_wp2
      go_loopg [4, 5, 7, 14] r.length (fun g t4 t5 t7 t14 wy => ∃ (i : Nat) (ins : Bool), i + g = r.length ∧ t14 = .int .i64 i ∧ t7 = .bool ins ∧ t4 = u4 ∧ t5 = .string ⟨r.toArray⟩ ∧ Aside (cutF false r = consHead (r.take i) (cutF ins (r.drop i))) ∧ wr = wy)
      case atStart => exact ⟨0, false, by omega, rfl, rfl, rfl, rfl, HS0.out, rfl⟩
      case round =>
        obtain ⟨i, ins, hig, rfl, rfl, rfl, rfl, HC, rfl⟩ := hrel
        by_cases hlt : i < r.length
        · obtain ⟨g2, rfl⟩ : ∃ g2, gk = g2 + 1 := ⟨gk - 1, by omega⟩
          cases h34 : ((r[i].toNat : Int) == 34)
          · have k34 : ¬ r[i] = 34 := by intro e; rw [e] at h34; exact absurd h34 (by decide)
            cases h32 : ((r[i].toNat : Int) != 32)
            · have k32 : r[i] = 32 := UInt8.toNat_inj.1 (by simp at h32; simp; omega)
              cases ins
              · have HK := Lib.hid (cut_at hlt k32 HC.out)
                have htl : (r.take i).length ≤ 1000000 := by simp; omega
                clear HC k32 k34
                go_wp2_with fail
                refine (word_any _ _ htl).mono ?_
                rintro e w2 ⟨rfl, hB⟩
                cases hw : wordB (r.take i)
                · have HS := Lib.hid (split_no hn (HA.out.1.trans (by rw [HK.out])) hw)
                  clear hw HK HA hown
                  go_wp2
                  try rw [Exit.noGoto_ret]
                  go_ret2
                  exact StrsPost.none_ HS.out rfl (hb0.out.trans (hB.mono hb0.out.size))
                · have HW := Lib.hid hw
                  have hb2 := hb0.out.trans (hB.mono hb0.out.size)
                  have hown2 := own_keep hown hB
                  clear hw hB hown hb0
                  go_wp2_with fail
                  refine (Clone_any _ _ (Nat.le_trans htl (by decide))).mono ?_
                  rintro e w3 ⟨rfl, hC⟩
                  have hb3 := hb2.trans (hC.mono hb2.size)
                  have hown3 := own_keep hown2 hC
                  clear hC hown2 hb2
                  go_wp2_with (at_builtin; refine wpList_append_new rfl (.tmp 35) (.tmp 40) 49 9 rfl Tryz.underlying49 hsi hs0 hs1 hs2 rfl (by decide) (by decide) w.heap.size _ 1 rfl rfl hown3 rfl (by simp [Value.oneCell']) (by omega) hb3.size ?_; intro v4 w4 hown4 hb4)
                  go_roundg (r.drop (i + 1)).length
                  case measure => simp; omega
                  case rel =>
                    exact ⟨ws ++ [r.take i], r.drop (i + 1), by simp, rfl, rfl, by simp; omega, by simpa [strsV] using hown4, ⟨by rw [HA.out.1, HK.out]; simp, fun x hx => by
                      rcases List.mem_append.1 hx with h | h
                      · exact HA.out.2 x h
                      · rw [List.mem_singleton.1 h]; exact HW.out⟩, hb3.trans hb4⟩
              · have HK := Lib.hid (cut_keep hlt (by simp) HC.out)
                go_wp2
                go_roundg g2
                case measure => omega
                case rel => exact ⟨i + 1, true, by omega, by go_num, rfl, rfl, rfl, by (have := HK.out; rw [if_neg k34] at this; exact this), rfl⟩
            · have k32 : ¬ r[i] = 32 := by intro e; rw [e] at h32; exact absurd h32 (by decide)
              have HK := Lib.hid (cut_keep hlt (fun h => k32 h.1) HC.out)
              go_wp2
              go_roundg g2
              case measure => omega
              case rel => exact ⟨i + 1, ins, by omega, by go_num, rfl, rfl, rfl, by (have := HK.out; rw [if_neg k34] at this; exact this), rfl⟩
          · have h32 : ((r[i].toNat : Int) != 32) = true := by simp at h34 ⊢; omega
            have k34 : r[i] = 34 := UInt8.toNat_inj.1 (by simp at h34; simp; omega)
            have HK := Lib.hid (cut_keep hlt (fun h => by rw [k34] at h; exact absurd h.1 (by decide)) HC.out)
            have K34 := Lib.hid k34
            clear k34
            go_wp2
            go_roundg g2
            case measure => omega
            case rel => exact ⟨i + 1, !ins, by omega, by go_num, rfl, rfl, rfl, by (have := HK.out; rw [if_pos K34.out] at this; exact this), rfl⟩
        · obtain rfl : i = r.length := by omega
          have HK := Lib.hid (cut_end HC.out)
          clear HC
          go_wp2_with fail
          refine (word_any r _ (by omega)).mono ?_
          rintro e w2 ⟨rfl, hB⟩
          cases hw : wordB r
          · have HS := Lib.hid (split_no (t := []) hn (HA.out.1.trans (by rw [HK.out])) hw)
            clear hw HK HA hown
            go_wp2
            try rw [Exit.noGoto_ret]
            go_ret2
            exact StrsPost.none_ HS.out rfl (hb0.out.trans (hB.mono hb0.out.size))
          · have HS := Lib.hid (split_yes (ws := ws ++ [r]) hn (by rw [HA.out.1, HK.out]) (fun x hx => by
              rcases List.mem_append.1 hx with h | h
              · exact HA.out.2 x h
              · rw [List.mem_singleton.1 h]; exact hw))
            have hb2 := hb0.out.trans (hB.mono hb0.out.size)
            have hown2 := own_keep hown hB
            clear hw HK HA hB hown hb0
            go_wp2_with fail
            refine (Clone_any r _ (by omega)).mono ?_
            rintro e w3 ⟨rfl, hC⟩
            have hb3 := hb2.trans (hC.mono hb2.size)
            have hown3 := own_keep hown2 hC
            clear hC hown2 hb2
            go_wp2_with (at_builtin; refine wpList_append_new rfl (.tmp 51) (.tmp 54) 49 9 rfl Tryz.underlying49 hsi hs0 hs1 hs2 rfl (by decide) (by decide) w.heap.size _ 1 rfl rfl hown3 rfl (by simp [Value.oneCell']) (by omega) hb3.size ?_; intro v4 w4 hown4 hb4)
            try rw [Exit.noGoto_ret]
            go_ret2
            exact ⟨v4, by rw [HS.out]; rfl, by rw [HS.out]; simpa [strsV] using hown4, hb3.trans hb4⟩
end Go.Proofs.YtolbhjjcabiabaaGreatDoor

/- The document's Same: the same texts, in the same order. -/
set_option linter.unusedVariables false
set_option linter.unusedSimpArgs false
namespace Go.Proofs.YtolbhjjcabiabaaGreatDoor
open Go.RowKit

end Go.Proofs.YtolbhjjcabiabaaGreatDoor

/- Walks: texts in memory; Same, Few, Join. -/
set_option linter.unusedVariables false
set_option linter.unusedSimpArgs false
namespace Go.Proofs.YtolbhjjcabiabaaGreatDoor
open Go.RowKit

set_option maxHeartbeats 800000 in
theorem JoinQ_any (l : List (List UInt8)) (v : Value) (w : World) (hv : Strs w v l) (hl : l.length ≤ 1000001) (hj : (joinQ l).length ≤ 1000000) :
    Calls Tryz.prog 38 #[v] w fun e w' => e = .returned (.string ⟨(joinQ l).toArray⟩) ∧ Below w.heap.size w w' := by
  obtain ⟨a, ca, rfl, hm, HA0⟩ := hv
  have HA := Lib.hid HA0
  clear HA0 hm
  have hg0 := bld_new w
  have B0 : Below w.heap.size w (w.alloc (.cells #[.pointer none, .slice none 0 0] 62)) := (Below.refl _ w).alloc (Nat.le_refl _) _
  go_enter Tryz.func38, Tryz.ntmps38
  go_wp2
  go_loopw [8] (fun i wr => ∃ k : Nat, k ≤ l.length ∧ i = .int .i64 k ∧ BldW w.heap.size w.heap.size (joinQ (l.take k)) wr ∧ Below w.heap.size w wr) (fun i _ => l.length - (intOf i).toNat)
  case atStart => exact ⟨0, Nat.zero_le _, rfl, hg0, B0⟩
  case round =>
    obtain ⟨k, hk, rfl, hown, hb⟩ := hrel
    by_cases hlt : k < l.length
    · obtain ⟨ba, oa, rfl, hba, hca⟩ := HA.out (by omega)
      have c1 : wr.cell? ⟨ba, oa + k, none⟩ = some (.string ⟨l[k].toArray⟩) := (hb.cell (p := ⟨ba, oa + k, none⟩) hba).trans (hca k hlt)
      clear hca
      have hjt := Lib.hid (joinQ_take l k hlt)
      have hj1 := joinQ_take_le l (l.length - (k + 1)) (k + 1) (by omega)
      have hj0 := joinQ_take_le l (l.length - k) k (by omega)
      by_cases h0 : k = 0
      · subst h0
        have hsz : l[0].length ≤ 1000000 := by rw [hjt.out, if_pos rfl] at hj1; omega
        clear hj1 hj0
        have hown' : BldW w.heap.size w.heap.size [] wr := by simpa [joinQ] using hown
        clear hown
        simp only [Nat.add_zero] at c1
        go_wp2_with fail
        refine (bldText_any w.heap.size w.heap.size [] l[0] _ hown' (by simp; omega) hb.size).mono ?_
        rintro e w3 ⟨rfl, hown3, hb3⟩
        go_wp2
        go_roundw
        case rel => exact ⟨1, by omega, rfl, by (show BldW _ _ (joinQ (l.take (0 + 1))) _); rw [hjt.out]; simpa using hown3, hb.trans hb3⟩
        case measure => simp [intOf]; omega
      · have hk0 : (0 : Int) < (k : Int) := by omega
        have hsz : (joinQ (l.take k)).length + l[k].length + 1 ≤ 1000000 := by rw [hjt.out, if_neg h0] at hj1; simp at hj1; omega
        clear hj1
        have HKZ := Lib.hid h0
        clear h0
        go_wp2_with fail
        refine (bldByte_any w.heap.size w.heap.size _ 32 _ hown (by omega) hb.size).mono ?_
        rintro e w3 ⟨rfl, hown3, hb3⟩
        have hbl := hb.trans hb3
        have c2 := (hb3.cell (p := ⟨ba, oa + k, none⟩) hba).trans c1
        clear c1 hown
        go_wp2_with fail
        refine (bldText_any w.heap.size w.heap.size _ l[k] _ hown3 (by simp; omega) hbl.size).mono ?_
        rintro e w4 ⟨rfl, hown4, hb4⟩
        go_wp2
        go_roundw
        case rel => exact ⟨k + 1, by omega, by go_num, by rw [hjt.out, if_neg HKZ.out]; simpa using hown4, hbl.trans hb4⟩
        case measure => simp [intOf]; omega
    · obtain rfl : k = l.length := by omega
      rw [List.take_length] at hown
      go_wp2_with fail
      refine (bldString_any w.heap.size w.heap.size _ _ hown hb.size).mono ?_
      rintro e w2 ⟨rfl, b2⟩
      go_wp2
      go_ret
      exact ⟨rfl, hb.trans b2⟩
end Go.Proofs.YtolbhjjcabiabaaGreatDoor

/- Plain functions on lists of bytes: what the document's own reader does. No walk, no program. -/
set_option linter.unusedVariables false
set_option linter.unusedSimpArgs false
namespace Go.Proofs.YtolbhjjcabiabaaGreatDoor

/-- The reader stands at place 'at' of l and has read o: if l is the form of a text x, o is its beginning, and what was read is o's form. -/
def RefAt (l o : List UInt8) (p : Nat) : Prop := ∀ x, quoteB x = l → ∃ z, x = o ++ z ∧ p = 1 + (formsB o).length

theorem refAt_start (l : List UInt8) : RefAt l [] 1 := fun x _ => ⟨x, rfl, rfl⟩

theorem quoteB_at (o : List UInt8) (b : UInt8) (z : List UInt8) (j : Nat) (hj : j < (formB b).length) : (quoteB (o ++ b :: z))[1 + (formsB o).length + j]? = (formB b)[j]? := by
  have : 1 + (formsB o).length + j = ((formsB o).length + j) + 1 := by omega
  rw [this]
  simp only [quoteB, List.getElem?_cons_succ, formsB_append, formsB_cons, List.append_assoc]
  rw [List.getElem?_append_right (by omega)]
  have e : (formsB o).length + j - (formsB o).length = j := by omega
  rw [e, List.getElem?_append_left hj]

theorem quoteB_length (o : List UInt8) (b : UInt8) (z : List UInt8) : (quoteB (o ++ b :: z)).length = 2 + (formsB o).length + (formB b).length + (formsB z).length := by
  simp [quoteB, formsB_append, formsB_cons]; omega

theorem refAt_ne {l o : List UInt8} {p : Nat} (h : RefAt l o p) (hp : p + 1 < l.length) {x : List UInt8} (hx : quoteB x = l) : ∃ b z, x = o ++ b :: z ∧ p = 1 + (formsB o).length := by
  obtain ⟨z, rfl, hp2⟩ := h x hx
  cases z with
  | cons b z => exact ⟨b, z, rfl, hp2⟩
  | nil =>
    rw [← hx] at hp
    simp [quoteB] at hp
    omega

/-- Four bytes are read. -/
theorem refAt_hex {l o : List UInt8} {p : Nat} (h : RefAt l o p) (hp : p + 3 < l.length) (h92 : l[p]? = some 92) {d1 d2 : UInt8} (e1 : l[p + 2]? = some d1) (e2 : l[p + 3]? = some d2) :
    RefAt l (o ++ [(16 * idx16 d1 + idx16 d2).toUInt8]) (p + 4) := by
  intro x hx
  obtain ⟨b, z, rfl, rfl⟩ := refAt_ne h (by omega) hx
  have g0 := quoteB_at o b z 0 (formB_pos b)
  rw [hx] at g0
  simp only [Nat.add_zero] at g0
  rw [g0] at h92
  cases hb : bareB b
  · have f : formB b = [92, 120, hexD (b.toNat / 16), hexD (b.toNat % 16)] := formB_hex hb
    have hl : (formB b).length = 4 := by rw [f]; rfl
    have g2 := quoteB_at o b z 2 (by omega)
    have g3 := quoteB_at o b z 3 (by omega)
    rw [hx, e1, f] at g2
    rw [hx, e2, f] at g3
    simp at g2 g3
    have h1 : b.toNat / 16 < 16 := by have := b.toNat_lt; omega
    have h2 : b.toNat % 16 < 16 := by omega
    rw [g2, g3, idx16_hexD h1, idx16_hexD h2, byte_split]
    refine ⟨z, by simp, ?_⟩
    rw [formsB_append]
    have : formsB [b] = formB b := by simp [formsB]
    rw [this, List.length_append, hl]; omega
  · rw [formB_bare hb] at h92
    simp at h92
    subst h92
    exact absurd hb (by decide)

/-- One byte is read. -/
theorem refAt_bare {l o : List UInt8} {p : Nat} (h : RefAt l o p) (hp : p + 1 < l.length) {c : UInt8} (hc : l[p]? = some c) (hno : ¬ (c = 92 ∧ p + 3 < l.length)) :
    RefAt l (o ++ [c]) (p + 1) := by
  intro x hx
  obtain ⟨b, z, rfl, rfl⟩ := refAt_ne h hp hx
  have g0 := quoteB_at o b z 0 (formB_pos b)
  rw [hx] at g0
  simp only [Nat.add_zero] at g0
  rw [g0] at hc
  cases hb : bareB b
  · exfalso
    have hl : (formB b).length = 4 := by rw [formB_hex hb]; rfl
    have hq := quoteB_length o b z
    rw [hx] at hq
    rw [formB_hex hb] at hc
    simp at hc
    exact hno ⟨hc.symm, by omega⟩
  · rw [formB_bare hb] at hc
    simp at hc
    subst hc
    refine ⟨z, by simp, ?_⟩
    rw [formsB_append]
    have : formsB [b] = [b] := by simp [formsB, formB_bare hb]
    rw [this]; simp; omega

theorem refAt_end_yes {l o : List UInt8} (hq : quoteB o = l) : unquoteB l = some o := unquoteB_of hq
theorem refAt_end_no {l o : List UInt8} {p : Nat} (h : RefAt l o p) (hp : ¬ p + 1 < l.length) (hq : quoteB o ≠ l) : unquoteB l = none := by
  refine unquoteB_none fun x hx => ?_
  obtain ⟨z, rfl, rfl⟩ := h x hx
  cases z with
  | nil => rw [List.append_nil] at hx; exact hq hx
  | cons b z =>
    have hl := quoteB_length o b z
    have hb := formB_pos b
    rw [hx] at hl
    omega

def nvB (d1 d2 : UInt8) : Nat → Nat
  | 0 => 0
  | 1 => idx16 d1
  | _ => 16 * idx16 d1 + idx16 d2
theorem nvB_le (d1 d2 : UInt8) (j : Nat) : nvB d1 d2 j ≤ 1000 := by
  have h1 := idx16_le d1
  have h2 := idx16_le d2
  match j with
  | 0 => simp [nvB]
  | 1 => simp [nvB]; omega
  | _ + 2 => simp [nvB]; omega
theorem nvB_step {l : List UInt8} {p q : Nat} (h3 : p + 3 < l.length) (h1 : p + 2 ≤ q) (h2 : q < p + 4) : nvB (l[p + 2]'(by omega)) (l[p + 3]'h3) (q + 1 - (p + 2)) = 16 * nvB (l[p + 2]'(by omega)) (l[p + 3]'h3) (q - (p + 2)) + idx16 (l[q]'(by omega)) := by
  rcases (show q = p + 2 ∨ q = p + 3 by omega) with rfl | rfl
  · have e1 : p + 2 + 1 - (p + 2) = 1 := by omega
    have e2 : p + 2 - (p + 2) = 0 := by omega
    rw [e1, e2]; simp [nvB]
  · have e1 : p + 3 + 1 - (p + 2) = 2 := by omega
    have e2 : p + 3 - (p + 2) = 1 := by omega
    rw [e1, e2]; simp [nvB]
end Go.Proofs.YtolbhjjcabiabaaGreatDoor

/- Walks: the document's own Quote and Unquote. -/
set_option linter.unusedVariables false
set_option linter.unusedSimpArgs false
namespace Go.Proofs.YtolbhjjcabiabaaGreatDoor
open Go.RowKit

attribute [go_sem] ByteArray.mk_append_mk

theorem refQuote_any (l : List UInt8) (w : World) (hl : l.length ≤ 1000000) :
    Calls Tryz.prog 33 #[.string ⟨l.toArray⟩] w fun e w' => e = .returned (.string ⟨(quoteB l).toArray⟩) ∧ Below w.heap.size w w' := by
  go_enter Tryz.func33, Tryz.ntmps33
  go_wp2
  go_loopw [3, 4] (fun s i wr => ∃ k : Nat, k ≤ l.length ∧ i = .int .i64 k ∧ s = .string ⟨(34 :: formsB (l.take k)).toArray⟩ ∧ Below w.heap.size w wr) (fun _ i _ => l.length - (intOf i).toNat)
  case atStart => exact ⟨0, Nat.zero_le _, rfl, rfl, Below.refl _ _⟩
  case round =>
    obtain ⟨k, hk, rfl, rfl, hb⟩ := hrel
    have hfl := formsB_take_len l k
    by_cases hlt : k < l.length
    · have hsn := Lib.hid (formsB_snoc l k hlt)
      have h4 := formB_len l[k]
      go_wp2_with fail
      refine (Byte_any _ _).mono ?_
      rintro e w2 ⟨rfl, hB⟩
      go_wp2
      go_roundw
      case rel => exact ⟨k + 1, by omega, by go_num, by rw [hsn.out], hb.trans (hB.mono hb.size)⟩
      case measure => simp [intOf]; omega
    · obtain rfl : k = l.length := by omega
      rw [List.take_length] at hfl ⊢
      go_wp2
      go_ret
      exact ⟨rfl, hb⟩

set_option maxRecDepth 100000 in
set_option maxHeartbeats 1000000 in
theorem refUnquote_any (l : List UInt8) (w : World) (hl : l.length ≤ 200000) :
    Calls Tryz.prog 25 #[.string ⟨l.toArray⟩] w fun e w' => e = .returned (unqV l) ∧ Below w.heap.size w w' := by
  obtain ⟨i0, hi, hz0, hz1, hz2⟩ := info_parts Tryz.info5
  go_enter Tryz.func25, Tryz.ntmps25
  go_wp2
  go_loopg [4, 5] l.length (fun g s4 s5 wr => ∃ (o : List UInt8) (p : Nat), s5 = .int .i64 p ∧ p ≤ l.length + 1 ∧ o.length ≤ p ∧ l.length ≤ p + g ∧ wr.ownsRow w.heap.size 5 1 s4 o.length (bytesV o) ∧ Aside (RefAt l o p) ∧ Below w.heap.size w wr)
  case atStart => exact ⟨[], 1, rfl, by omega, by simp, by omega, World.ownsRow_nil _ _ _ _, refAt_start l, Below.refl _ _⟩
  case round =>
    obtain ⟨o, p, rfl, hp, hop, hpg, hown, HR, hb⟩ := hrel
    by_cases hlt : p + 1 < l.length
    · cases h92 : ((l[p].toNat : Int) == 92)
      · have hno : ¬ (l[p] = 92 ∧ p + 3 < l.length) := by intro e; rw [e.1] at h92; exact absurd h92 (by decide)
        have HR2 := Lib.hid (refAt_bare HR.out hlt (List.getElem?_eq_getElem (by omega)) hno)
        clear HR hno
        go_wp2_with (at_builtin; refine wpList_append_new rfl (.tmp 56) (.tmp 60) 60 5 rfl Tryz.underlying60 hi hz0 hz1 hz2 rfl (by decide) (by decide) w.heap.size _ 1 rfl rfl hown rfl (by simp [Value.oneCell']) (by omega) hb.size ?_; intro v3 w3 hown3 hb3)
        go_roundg (gk - 1)
        case measure => omega
        case rel => exact ⟨o ++ [l[p]], p + 1, by go_num, by omega, by simp; omega, by omega, by simpa [bytesV] using hown3, HR2.out, hb.trans hb3⟩
      · by_cases h3 : p + 3 < l.length
        · have K92 : Hid (l[p] = 92) := UInt8.toNat_inj.1 (by simp at h92; simp; omega)
          obtain ⟨wo, rfl⟩ : ∃ wo : World, wo = wr := ⟨_, rfl⟩
          obtain ⟨G, rfl⟩ : ∃ G, gk = G + 1 := ⟨gk - 1, by omega⟩
          go_wp2
          go_loopg [6, 7] 2 (fun g s6 s7 wy => ∃ q m : Nat, s7 = .int .i64 q ∧ s6 = .int .i64 m ∧ q + g = p + 4 ∧ p + 2 ≤ q ∧ m ≤ 1000 ∧ Aside (m = nvB (l[p + 2]'(by omega)) (l[p + 3]'h3) (q - (p + 2))) ∧ Below wo.heap.size wo wy)
          case atStart => exact ⟨p + 2, 0, by go_num, rfl, by omega, by omega, by omega, by (show _ = _; simp [nvB]), Below.refl _ _⟩
          case round =>
            obtain ⟨q, m, rfl, rfl, hqg, hq2, hm, HM, hby⟩ := hrel
            by_cases hq : q < p + 4
            · have hql : q < l.length := by omega
              obtain ⟨wq, rfl⟩ : ∃ wq : World, wq = wr := ⟨_, rfl⟩
              obtain ⟨g2, rfl⟩ : ∃ g2, gk = g2 + 1 := ⟨gk - 1, by omega⟩
              go_wp2
              go_loopg [8] 16 (fun g s8 wy => ∃ d : Nat, s8 = .int .i64 d ∧ d + g = 16 ∧ Aside (∀ j, j < d → hexD j ≠ l[q]) ∧ Below wq.heap.size wq wy)
              case atStart => exact ⟨0, rfl, by omega, fun j hj => absurd hj (by omega), Below.refl _ _⟩
              case round =>
                obtain ⟨d, rfl, hdg, HD, hbd⟩ := hrel
                have hb2 := hby.trans (hbd.mono hby.size)
                have hiq := idx16_le l[q]
                have HN : Hid (16 * m + idx16 l[q] ≤ 1000) := by
                  show _ ≤ _
                  have h1 := nvB_le (l[p + 2]'(by omega)) (l[p + 3]'h3) (q + 1 - (p + 2))
                  rw [nvB_step h3 hq2 hq, ← HM.out] at h1
                  exact h1
                by_cases hd : d < 16
                · have hd0 : (0 : Int) ≤ (d : Int) := by omega
                  have hd1 : (d : Int) < 16 := by omega
                  have hq0 : (0 : Int) ≤ (q : Int) := by omega
                  have hq1 : (q : Int) < (l.length : Int) := by omega
                  have hh := hex_atN d (show d < hexDigits.length from hd)
                  unfold hexDigits at hh
                  have HHH := Lib.hid hh
                  clear hh
                  cases ht : ((([48, 49, 50, 51, 52, 53, 54, 55, 56, 57, 97, 98, 99, 100, 101, 102] : List UInt8)[d]'hd).toNat : Int) != (l[q].toNat : Int)
                  · have HI := Lib.hid (idx16_of (Nat.le_of_lt hd) HD.out (fun _ => by rw [← HHH.out]; exact UInt8.toNat_inj.1 (by simp at ht; omega)))
                    go_wp2
                    go_quiet (fail)
                    go_wp2
                    go_roundg g2
                    case measure => omega
                    case rel => exact ⟨q + 1, 16 * m + d, by go_num, by go_num, by omega, by omega, by (have := HN.out; rw [HI.out] at this; exact this), by (show _ = _; rw [nvB_step h3 hq2 hq, ← HM.out, HI.out]), below_drewN hb2 _⟩
                  · have HI : Hid (∀ j, j < d + 1 → hexD j ≠ l[q]) := by
                      intro j hj
                      rcases Nat.lt_or_ge j d with h | h
                      · exact HD.out j h
                      · obtain rfl : j = d := by omega
                        rw [← HHH.out]
                        intro e
                        rw [e] at ht
                        simp at ht
                    go_wp2
                    go_quiet (fail)
                    go_wp2
                    go_roundg (gk - 1)
                    case measure => omega
                    case rel => exact ⟨d + 1, by go_num, by omega, HI.out, below_drewN hbd _⟩
                · have hdf : decide ((d : Int) < 16) = false := by simp; omega
                  obtain rfl : d = 16 := by omega
                  have HI := Lib.hid (idx16_of (Nat.le_refl 16) HD.out (fun h => absurd h (by omega)))
                  go_wp2
                  go_quiet (fail)
                  go_wp2
                  go_roundg g2
                  case measure => omega
                  case rel => exact ⟨q + 1, 16 * m + 16, by go_num, by go_num, by omega, by omega, by (have := HN.out; rw [HI.out] at this; exact this), by (show _ = _; rw [nvB_step h3 hq2 hq, ← HM.out, HI.out]), below_drewN hb2 _⟩
            · have hno : ¬ q < p + 4 := hq
              obtain rfl : q = p + 4 := by omega
              have hHX := refAt_hex HR.out h3 (by rw [List.getElem?_eq_getElem (by omega), K92.out]) (List.getElem?_eq_getElem (by omega)) (List.getElem?_eq_getElem h3)
              have hmv : m = 16 * idx16 (l[p + 2]'(by omega)) + idx16 (l[p + 3]'h3) := by
                have := HM.out
                rw [show p + 4 - (p + 2) = 2 by omega] at this
                exact this
              rw [← hmv] at hHX
              have HX := Lib.hid hHX
              have hb2 := hb.trans (hby.mono hb.size)
              have hown2 := own_keep hown hby
              clear hHX hmv HM HR hown hby
              go_wp2_with (at_builtin; refine wpList_append_new rfl (.tmp 49) (.tmp 52) 60 5 rfl Tryz.underlying60 hi hz0 hz1 hz2 rfl (by decide) (by decide) w.heap.size _ 1 rfl rfl hown2 rfl (by simp [Value.oneCell']) (by omega) hb2.size ?_; intro v3 w3 hown3 hb3)
              go_roundg G
              case measure => omega
              case rel => exact ⟨o ++ [m.toUInt8], p + 4, by go_num, by omega, by simp; omega, by omega, by simpa [bytesV] using hown3, HX.out, hb2.trans hb3⟩
        · have hno : ¬ (l[p] = 92 ∧ p + 3 < l.length) := fun e => h3 e.2
          have HR2 := Lib.hid (refAt_bare HR.out hlt (List.getElem?_eq_getElem (by omega)) hno)
          clear HR hno
          go_wp2_with (at_builtin; refine wpList_append_new rfl (.tmp 56) (.tmp 60) 60 5 rfl Tryz.underlying60 hi hz0 hz1 hz2 rfl (by decide) (by decide) w.heap.size _ 1 rfl rfl hown rfl (by simp [Value.oneCell']) (by omega) hb.size ?_; intro v3 w3 hown3 hb3)
          go_roundg (gk - 1)
          case measure => omega
          case rel => exact ⟨o ++ [l[p]], p + 1, by go_num, by omega, by simp; omega, by omega, by simpa [bytesV] using hown3, HR2.out, hb.trans hb3⟩
    · have hcv := run_own_string (P := Tryz.prog) (l := o) 60 9 Tryz.underlying60 Tryz.underlying5 Tryz.underlying9 hown
      go_wp2_with fail
      refine (refQuote_any o _ (by omega)).mono ?_
      rintro e w2 ⟨rfl, hB⟩
      have hown2 := own_keep hown hB
      have hcv2 := run_own_string (P := Tryz.prog) (l := o) 60 9 Tryz.underlying60 Tryz.underlying5 Tryz.underlying9 hown2
      by_cases hq : quoteB o = l
      · have HV := Lib.hid (unqV_some (refAt_end_yes hq))
        have hqe : (quoteB o == l) = true := by simpa using hq
        clear hcv hown hq HR
        go_wp2
        go_ret2
        exact ⟨by rw [HV.out]; rfl, hb.trans (hB.mono hb.size)⟩
      · have HV := Lib.hid (unqV_none (refAt_end_no HR.out hlt hq))
        have hqe : (quoteB o == l) = false := by simpa using hq
        clear hcv hown hq HR
        go_wp2
        go_ret2
        exact ⟨by rw [HV.out]; rfl, hb.trans (hB.mono hb.size)⟩
end Go.Proofs.YtolbhjjcabiabaaGreatDoor

/- Walks: the document's Dec. -/
set_option linter.unusedVariables false
set_option linter.unusedSimpArgs false
namespace Go.Proofs.YtolbhjjcabiabaaGreatDoor
open Go.RowKit
attribute [local go_sem] ByteArray.mk_append_mk

theorem decF_fuel (f : Nat) : ∀ g n, n < 10 ^ f → n < 10 ^ g → 1 ≤ f → 1 ≤ g → decF f n = decF g n := by
  induction f with
  | zero => intro g n _ _ h; omega
  | succ f ih =>
    intro g n h1 h2 _ h4
    cases g with
    | zero => omega
    | succ g =>
      unfold decF
      split
      · rfl
      · rename_i h10
        have hf : 1 ≤ f := Nat.pos_of_ne_zero fun e => by subst e; simp at h1; omega
        have hg : 1 ≤ g := Nat.pos_of_ne_zero fun e => by subst e; simp at h2; omega
        rw [ih g (n / 10) (by rw [Nat.pow_succ] at h1; omega) (by rw [Nat.pow_succ] at h2; omega) hf hg]
theorem dec_small {n : Nat} (h : n < 10) : decB n = [UInt8.ofNat (48 + n)] := by
  unfold decB
  rw [decF, if_pos h]
theorem dec_step {n : Nat} (h : 10 ≤ n) (hn : n < 10 ^ 19) : decB n = decB (n / 10) ++ [UInt8.ofNat (48 + n % 10)] := by
  unfold decB
  rw [decF, if_neg (by omega), decF_fuel 19 20 (n / 10) (by omega) (by omega) (by omega) (by omega)]
/-- What is still to be put ahead. -/
def preD (x : Nat) : List UInt8 := if x < 10 then [] else decB (x / 10)
theorem pre_dec {x : Nat} (hn : x < 10 ^ 19) : decB x = preD x ++ [UInt8.ofNat (48 + x % 10)] := by
  unfold preD
  split
  · rename_i h
    rw [dec_small h, Nat.mod_eq_of_lt h]; rfl
  · exact dec_step (by omega) hn
def digU (m : Nat) : UInt8 := UInt8.ofNat (48 + m)
theorem digU_nat {m : Nat} (h : m < 10) : ((digU m).toNat : Int) = 48 + (m : Int) := by
  unfold digU
  rw [dig_of h]; omega
theorem pre_digU {x : Nat} (hn : x < 10 ^ 19) : decB x = preD x ++ [digU (x % 10)] := pre_dec hn
theorem pre_next {x : Nat} (h : 10 ≤ x) (hn : x < 10 ^ 19) : preD x = preD (x / 10) ++ [digU (x / 10 % 10)] := by
  rw [show preD x = decB (x / 10) from if_neg (by omega)]
  exact pre_dec (by omega)
theorem one_cells (m : Nat) (h : m < 10) : (#[.int .u8 (48 + (m : Int))] : Array Value) = (bytesV [digU m]).toArray := by
  simp [bytesV, digU_nat h]
set_option maxHeartbeats 2000000 in
set_option maxRecDepth 100000 in
theorem refDec_any (n : Nat) (w : World) (hn : n ≤ 1099511627776) :
    Calls Tryz.prog 34 #[.int .i64 (n : Int)] w fun e w' => e = .returned (.string ⟨(decB n).toArray⟩) ∧ Below w.heap.size w w' := by
  have hp := pre_digU (x := n) (by omega)
  have hlen : (decB n).length ≤ 13 := decF_len 13 20 n (by omega) (by decide)
  obtain ⟨m, hm⟩ : ∃ m, m = n % 10 := ⟨_, rfl⟩
  have hm1 : m < 10 := by omega
  have hmi : (n : Int) % 10 = (m : Int) := by omega
  rw [← hm] at hp
  have hcv := run_new_string (P := Tryz.prog) w 60 9 Tryz.underlying60 Tryz.underlying5 Tryz.underlying9 [digU m] #[.int .u8 (48 + (m : Int))] (one_cells m hm1) 1 rfl
  have hwr : IntKind.i64.wrap (48 + (m : Int)) = 48 + (m : Int) := by rw [IntKind.wrap_i64]; omega
  have hB := (Below.refl w.heap.size w).alloc (Nat.le_refl _) (.cells #[.int .u8 (48 + (m : Int))] 5)
  have HP := Lib.hid hp
  have HL := Lib.hid hlen
  clear hp hm hlen
  go_enter Tryz.func34, Tryz.ntmps34
  go_wp2
  go_loopw [0, 3] (fun s0 s3 wr => ∃ (x : Nat) (s : List UInt8), x ≤ n ∧ s0 = .int .i64 x ∧ s3 = .string ⟨s.toArray⟩ ∧ Aside (decB n = preD x ++ s) ∧ Below w.heap.size w wr) (fun s0 _ _ => (intOf s0).toNat)
  case atStart => exact ⟨n, [digU m], Nat.le_refl _, rfl, rfl, HP.out, hB⟩
  case round =>
    clear hB hcv hwr hmi
    obtain ⟨x, s, hx, rfl, rfl, HX, hbw⟩ := hrel
    have hsl : s.length ≤ 13 := by
      have h1 := congrArg List.length HX.out
      rw [List.length_append] at h1
      have h2 := HL.out
      omega
    by_cases h10 : 10 ≤ x
    · have h10' : (10 : Int) ≤ (x : Int) := by omega
      have hnx := pre_next h10 (by omega)
      obtain ⟨y, hy⟩ : ∃ y, y = x / 10 := ⟨_, rfl⟩
      have hyi : (x : Int) / 10 = (y : Int) := by omega
      rw [← hy] at hnx
      have hyx : y < x := by omega
      obtain ⟨q, hq⟩ : ∃ q, q = y % 10 := ⟨_, rfl⟩
      have hq1 : q < 10 := by omega
      have hqi : (y : Int) % 10 = (q : Int) := by omega
      rw [← hq] at hnx
      have hcv := run_new_string (P := Tryz.prog) wr 60 9 Tryz.underlying60 Tryz.underlying5 Tryz.underlying9 [digU q] #[.int .u8 (48 + (q : Int))] (one_cells q hq1) 1 rfl
      have hwr : IntKind.i64.wrap (48 + (q : Int)) = 48 + (q : Int) := by rw [IntKind.wrap_i64]; omega
      have hb2 := hbw.alloc hbw.size (.cells #[.int .u8 (48 + (q : Int))] 5)
      have HN : Hid (decB n = preD y ++ (digU q :: s)) := by (show _ = _); rw [HX.out, hnx]; simp
      clear hnx hq hy
      go_wp2
      go_roundw
      case rel => exact ⟨y, digU q :: s, by omega, rfl, rfl, HN.out, hb2⟩
      case measure => simp [intOf]; omega
    · have h10' : ¬ (10 : Int) ≤ (x : Int) := by omega
      have HN : Hid (decB n = s) := by (show _ = _); rw [HX.out, show preD x = [] from if_pos (by omega)]; rfl
      go_wp2
      go_ret
      exact ⟨ret_str HN.out.symm, hbw⟩
end Go.Proofs.YtolbhjjcabiabaaGreatDoor

/- Walks: the document's num. -/
set_option linter.unusedVariables false
set_option linter.unusedSimpArgs false
namespace Go.Proofs.YtolbhjjcabiabaaGreatDoor
open Go.RowKit

theorem val_take {s : List UInt8} {k : Nat} (h : k < s.length) : valB (s.take (k + 1)) = 10 * valB (s.take k) + (s[k].toNat - 48) := by
  rw [List.take_succ_eq_append_getElem h, val_snoc]
theorem val_small {s : List UInt8} (k : Nat) (hk : k ≤ s.length) (hd : ∀ j (h : j < s.length), j < k → digB s[j] = true) : valB (s.take k) < 10 ^ k := by
  induction k with
  | zero => simp [valB]
  | succ k ih =>
    have h1 := ih (by omega) (fun j h hj => hd j h (by omega))
    have h2 := hd k (by omega) (by omega)
    unfold digB at h2
    simp only [Bool.and_eq_true, decide_eq_true_eq] at h2
    rw [val_take (by omega), Nat.pow_succ]
    omega
theorem num_len {s : List UInt8} (h : ¬ (1 ≤ s.length ∧ s.length ≤ 10)) : numB20 s = -1 := by
  unfold numB20
  rw [if_neg]
  simp only [Bool.and_eq_true, decide_eq_true_eq]
  exact fun c => h ⟨c.1, c.2.1⟩
theorem num_bad {s : List UInt8} {k : Nat} (h : k < s.length) (hb : digB s[k] = false) : numB20 s = -1 := by
  unfold numB20
  rw [if_neg]
  simp only [Bool.and_eq_true, List.all_eq_true]
  intro c
  have := c.2.2 _ (List.getElem_mem h)
  rw [hb] at this; cases this
theorem num_all {s : List UInt8} (h1 : 1 ≤ s.length) (h2 : s.length ≤ 10) (hd : ∀ j (h : j < s.length), j < s.length → digB s[j] = true) : numB20 s = if valB s ≤ 1073741824 ∧ decB (valB s) = s then (valB s : Int) else -1 := by
  unfold numB20
  rw [if_pos]
  simp only [Bool.and_eq_true, decide_eq_true_eq, List.all_eq_true]
  refine ⟨h1, h2, fun c hc => ?_⟩
  obtain ⟨j, hj, rfl⟩ := List.getElem_of_mem hc
  exact hd j hj hj
set_option maxHeartbeats 4000000 in
set_option maxRecDepth 100000 in
theorem refNum_any (s : List UInt8) (w : World) (hs : s.length ≤ 1000000) :
    Calls Tryz.prog 27 #[.string ⟨s.toArray⟩] w fun e w' => e = .returned (.int .i64 (numB20 s)) ∧ Below w.heap.size w w' := by
  by_cases h1 : 1 ≤ s.length
  rotate_left
  · have hl : (s.length : Int) < 1 := by omega
    have HN : Hid (numB20 s = -1) := num_len (fun c => h1 c.1)
    go_enter Tryz.func27, Tryz.ntmps27
    go_wp2
    go_ret
    exact ⟨by rw [HN.out]; rfl, Below.refl _ _⟩
  have hl : ¬ (s.length : Int) < 1 := by omega
  by_cases h2 : s.length ≤ 10
  rotate_left
  · have hl2 : (10 : Int) < (s.length : Int) := by omega
    have HN : Hid (numB20 s = -1) := num_len (fun c => h2 c.2)
    go_enter Tryz.func27, Tryz.ntmps27
    go_wp2
    go_ret
    exact ⟨by rw [HN.out]; rfl, Below.refl _ _⟩
  have hl2 : ¬ (10 : Int) < (s.length : Int) := by omega
  have H1 := Lib.hid h1
  have H2 := Lib.hid h2
  have hd1 : decide ((s.length : Int) < 1) = false := by simpa using hl
  have hd2 : decide ((10 : Int) < (s.length : Int)) = false := by simpa using hl2
  clear h1 h2
  go_enter Tryz.func27, Tryz.ntmps27
  go_wp2
  go_loopw [3, 4] (fun s3 s4 wr => ∃ k : Nat, k ≤ s.length ∧ s3 = .int .i64 (valB (s.take k) : Nat) ∧ s4 = .int .i64 k ∧ Aside (∀ j (h : j < s.length), j < k → digB s[j] = true) ∧ Below w.heap.size w wr) (fun _ s4 _ => s.length - (intOf s4).toNat)
  case atStart => exact ⟨0, Nat.zero_le _, rfl, rfl, fun j h hj => by omega, Below.refl _ _⟩
  case round =>
    obtain ⟨k, hk, rfl, rfl, HD, hbw⟩ := hrel
    by_cases hlt : k < s.length
    · have k0 : (0 : Int) ≤ (k : Int) := by omega
      have k1 : (k : Int) < (s.length : Int) := by omega
      cases hd : digB s[k]
      · have HN : Hid (numB20 s = -1) := num_bad hlt hd
        unfold digB at hd
        by_cases ha : s[k].toNat < 48
        · have ha' : ((s[k].toNat : Nat) : Int) < 48 := by omega
          clear hd
          go_wp2
          go_ret
          exact ⟨by rw [HN.out]; rfl, hbw⟩
        · have hb : 57 < s[k].toNat := by simp at hd; omega
          have ha' : ¬ ((s[k].toNat : Nat) : Int) < 48 := by omega
          have hb' : (57 : Int) < ((s[k].toNat : Nat) : Int) := by omega
          clear hd
          go_wp2
          go_ret
          exact ⟨by rw [HN.out]; rfl, hbw⟩
      · have hdd := hd
        unfold digB at hdd
        simp only [Bool.and_eq_true, decide_eq_true_eq] at hdd
        have ha : ¬ s[k].toNat < 48 := by omega
        have hb : ¬ 57 < s[k].toNat := by omega
        have ha' : ¬ ((s[k].toNat : Nat) : Int) < 48 := by omega
        have hb' : ¬ (57 : Int) < ((s[k].toNat : Nat) : Int) := by omega
        have hv := val_small k hk HD.out
        have hvt := val_take hlt
        have h10 : 10 ^ k ≤ 10 ^ 10 := Nat.pow_le_pow_right (by decide) (by have := H2.out; omega)
        have hw1 : IntKind.i64.wrap (10 * ((valB (s.take k) : Nat) : Int)) = 10 * ((valB (s.take k) : Nat) : Int) := by rw [IntKind.wrap_i64]; omega
        have hw2 : IntKind.i64.wrap (10 * ((valB (s.take k) : Nat) : Int) + ((s[k].toNat : Nat) : Int)) = 10 * ((valB (s.take k) : Nat) : Int) + ((s[k].toNat : Nat) : Int) := by rw [IntKind.wrap_i64]; omega
        have HV : Hid (((valB (s.take (k + 1)) : Nat) : Int) = 10 * ((valB (s.take k) : Nat) : Int) + ((s[k].toNat : Nat) : Int) - 48) := by (show _ = _); rw [hvt]; omega
        have HD2 := Lib.hid (show ∀ j (h : j < s.length), j < k + 1 → digB s[j] = true from fun j h hj => by
          by_cases e : j < k
          · exact HD.out j h e
          · have : j = k := by omega
            subst this; exact hd)
        have hb1 : valB (s.take k) ≤ 10000000000 := by omega
        have hb2 : s[k].toNat ≤ 57 := by omega
        have hb3 : 48 ≤ s[k].toNat := by omega
        clear hd hdd hvt hv h10
        generalize valB (s.take k) = v at *
        go_wp2
        go_roundw
        case rel => exact ⟨k + 1, by omega, by rw [HV.out], by go_num, HD2.out, hbw⟩
        case measure => simp [intOf]; omega
    · obtain rfl : k = s.length := by omega
      have HV := Lib.hid (num_all H1.out H2.out HD.out)
      have hv := val_small s.length (Nat.le_refl _) HD.out
      have h10 : 10 ^ s.length ≤ 10 ^ 10 := Nat.pow_le_pow_right (by decide) H2.out
      rw [List.take_length] at hv ⊢
      generalize hvv : valB s = v at *
      by_cases hg : v ≤ 1073741824
      · have hg' : ¬ (1073741824 : Int) < (v : Int) := by omega
        have hD := refDec_any v wr (by omega)
        clear hv h10
        cases he : decB v == s
        · have HN : Hid (numB20 s = -1) := by (show _ = _); rw [HV.out, if_neg]; rintro ⟨_, c⟩; rw [c] at he; simp at he
          go_wp2_with fail
          refine hD.mono ?_
          rintro e w2 ⟨rfl, b2⟩
          go_wp2
          go_ret
          exact ⟨by rw [HN.out]; rfl, hbw.trans (b2.mono hbw.size)⟩
        · have HN : Hid (numB20 s = (v : Int)) := by (show _ = _); rw [HV.out, if_pos ⟨hg, by simpa using he⟩]
          go_wp2_with fail
          refine hD.mono ?_
          rintro e w2 ⟨rfl, b2⟩
          go_wp2
          go_ret
          exact ⟨by rw [HN.out]; rfl, hbw.trans (b2.mono hbw.size)⟩
      · have hg' : (1073741824 : Int) < (v : Int) := by omega
        have HN : Hid (numB20 s = -1) := by (show _ = _); rw [HV.out, if_neg (fun c => hg c.1)]
        clear hv h10
        go_wp2
        go_ret
        exact ⟨by rw [HN.out]; rfl, hbw⟩
end Go.Proofs.YtolbhjjcabiabaaGreatDoor
