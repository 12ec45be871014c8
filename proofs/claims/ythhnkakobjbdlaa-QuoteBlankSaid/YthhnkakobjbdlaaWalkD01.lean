/- Walks: quote.Unquote, quote.word. -/
import Derived.Test.YthhnkakobjbdlaaWalkB01
import Derived.Test.YthhnkakobjbdlaaWalkC01
import Derived.Test.YthhnkakobjbdlaaBldGrow
set_option linter.unusedVariables false
set_option linter.unusedSimpArgs false
namespace Go.Proofs.Ythhnkakobjbdlaa
open Go.RowKit

attribute [go_sem] ByteArray.extract_mk

def unqV (l : List UInt8) : Value := .tuple #[.string ⟨((unquoteB l).getD []).toArray⟩, .bool (unquoteB l).isSome]
theorem unqV_none {l : List UInt8} (h : unquoteB l = none) : unqV l = .tuple #[.string ⟨#[]⟩, .bool false] := by simp [unqV, h]
theorem unqV_some {l x : List UInt8} (h : unquoteB l = some x) : unqV l = .tuple #[.string ⟨x.toArray⟩, .bool true] := by simp [unqV, h]
theorem unq_short {l : List UInt8} (h : l.length < 2) : unquoteB l = none := by
  refine unquoteB_none fun x e => ?_
  rw [← e] at h; simp [quoteB] at h; omega
theorem unq_first {c : UInt8} {t : List UInt8} (h : c ≠ 34) : unquoteB (c :: t) = none := by
  refine unquoteB_none fun x e => h ?_
  simp only [quoteB, List.cons.injEq] at e; exact e.1.symm
theorem unq_last {c d : UInt8} {t : List UInt8} (h : d ≠ 34) : unquoteB (c :: (t ++ [d])) = none := by
  refine unquoteB_none fun x e => h ?_
  simp only [quoteB, List.cons.injEq] at e
  have := congrArg List.getLast? e.2
  simp at this; exact this.symm
theorem unq_all {x m : List UInt8} (h : formsB x = m) : unquoteB (34 :: (m ++ [34])) = some x := unquoteB_of (by rw [quoteB, h])
theorem unq_stop {x r m : List UInt8} (h : formsB x ++ r = m) (hr : r ≠ []) (hf : firstB r = none) : unquoteB (34 :: (m ++ [34])) = none := by
  refine unquoteB_none fun y e => ?_
  simp only [quoteB, List.cons.injEq, true_and] at e
  have e2 := List.append_cancel_right e
  rw [← h] at e2
  obtain ⟨z, rfl, hz⟩ := formsB_split _ _ _ e2
  cases z with
  | nil => exact hr hz.symm
  | cons b z => rw [← hz, formsB_cons, firstB_form] at hf; cases hf
theorem forms_step {x r m : List UInt8} {b : UInt8} {k : Nat} (h : formsB x ++ r = m) (hf : firstB r = some (b, k)) : formsB (x ++ [b]) ++ r.drop k = m ∧ 1 ≤ k ∧ k ≤ r.length := by
  obtain ⟨rfl, h2⟩ := firstB_some hf
  have h3 := congrArg List.length h2
  simp at h3
  have h4 := formB_pos b
  refine ⟨?_, h4, ?_⟩
  · rw [formsB_append, ← h]; conv => rhs; rw [h2]
    simp [formsB]
  · have : (r.drop (formB b).length).length = r.length - (formB b).length := List.length_drop
    omega
theorem forms_len {x r m : List UInt8} (h : formsB x ++ r = m) : x.length + r.length ≤ m.length := by
  rw [← h, List.length_append]
  have : x.length ≤ (formsB x).length := by
    clear h
    induction x with
    | nil => simp
    | cons b x ih => rw [formsB_cons]; have := formB_pos b; simp; omega
  omega

def strLen : Value → Nat | .string s => s.size | _ => 0

theorem Unquote_no (l : List UInt8) (w : World) (hl : l.length ≤ 1000000) (hn : l.length < 2 ∨ ∃ c t d, l = c :: (t ++ [d]) ∧ (c ≠ 34 ∨ d ≠ 34)) :
    Calls Try.prog 14 #[.string ⟨l.toArray⟩] w fun e w' => e = .returned (unqV l) ∧ Below w.heap.size w w' := by
  rcases hn with hn | ⟨c, t, d, rfl, hn⟩
  · have hV := Lib.hid (unqV_none (unq_short hn))
    go_enter Try.func14, Try.ntmps14
    go_wp2
    go_ret2
    exact ⟨by rw [hV.out]; rfl, Below.refl _ _⟩
  · cases h1 : ((c.toNat : Int) != 34)
    · have hc : c = 34 := UInt8.toNat_inj.1 (by simp at h1; simp; omega)
      have hd : d ≠ 34 := hn.resolve_left (by simp [hc])
      have hV := Lib.hid (unqV_none (unq_last (c := c) (t := t) hd))
      have h2 : ((d.toNat : Int) != 34) = true := by
        rw [bne_iff_ne]; intro e; exact hd (UInt8.toNat_inj.1 (by simp; omega))
      clear hn hc hd
      have ht : t.length ≤ 1000000 := by simp at hl; omega
      go_enter Try.func14, Try.ntmps14
      go_wp2
      go_ret2
      exact ⟨by rw [hV.out]; rfl, Below.refl _ _⟩
    · have hc : c ≠ 34 := by rintro rfl; simp at h1
      have hV := Lib.hid (unqV_none (unq_first (t := t ++ [d]) hc))
      clear hn hc
      go_enter Try.func14, Try.ntmps14
      go_wp2
      go_ret2
      exact ⟨by rw [hV.out]; rfl, Below.refl _ _⟩

set_option maxHeartbeats 800000 in
theorem Unquote_yes (m : List UInt8) (w : World) (hl : m.length ≤ 1000000) :
    Calls Try.prog 14 #[.string ⟨(34 :: (m ++ [34])).toArray⟩] w fun e w' => e = .returned (unqV (34 :: (m ++ [34]))) ∧ Below w.heap.size w w' := by
  go_enter Try.func14, Try.ntmps14
  go_wp2_with fail
  refine (bldGrow_any m.length w (by omega)).mono ?_
  rintro e w1 ⟨rfl, hg1, B1⟩
  go_wp2
  go_loopw [4] (fun rest wr => ∃ x r : List UInt8, rest = .string ⟨r.toArray⟩ ∧ BldW w.heap.size w.heap.size x wr ∧ formsB x ++ r = m ∧ Below w.heap.size w wr) (fun rest _ => strLen rest)
  case atStart => exact ⟨[], m, by simp, hg1, rfl, B1⟩
  case round =>
    obtain ⟨x, r, rfl, hown, hm, hb⟩ := hrel
    have hxr := forms_len hm
    have HM := Lib.hid hm
    clear hm
    by_cases hr : r = []
    · subst hr
      have hV := Lib.hid (unqV_some (unq_all (by simpa using HM.out)))
      go_wp2_with fail
      refine (bldString_any w.heap.size w.heap.size x _ hown hb.size).mono ?_
      rintro e w2 ⟨rfl, b2⟩
      go_wp2
      go_ret2
      exact ⟨by rw [hV.out]; rfl, hb.trans b2⟩
    · have hre : r.isEmpty = false := by simpa using hr
      cases hf : firstB r with
      | none =>
        have hV := Lib.hid (unqV_none (unq_stop HM.out hr hf))
        have hF := Lib.hid (firstV_none hf)
        clear hf HM
        go_wp2_with fail
        refine (first_any r hr _ (by omega)).mono ?_
        rintro e w' ⟨rfl, hB⟩
        rw [hF.out]
        go_wp2
        go_ret2
        exact ⟨by rw [hV.out]; rfl, hb.trans (hB.mono hb.size)⟩
      | some bk =>
        obtain ⟨b, k⟩ := bk
        obtain ⟨hs, hk1, hk2⟩ := forms_step HM.out hf
        have HS := Lib.hid hs
        have hF := Lib.hid (firstV_some hf)
        clear hf HM hs
        have hsz : (r.drop k).length < r.length := by rw [List.length_drop]; omega
        go_wp2_with fail
        refine (first_any r hr _ (by omega)).mono ?_
        rintro e w' ⟨rfl, hB⟩
        rw [hF.out]
        have hb2 := hb.trans (hB.mono hb.size)
        have hown2 := hown.next hB
        clear hb hown hB hF
        go_wp2_with fail
        refine (bldByte_any w.heap.size w.heap.size x b _ hown2 (by omega) hb2.size).mono ?_
        rintro e w3 ⟨rfl, hown3, hb3⟩
        go_wp2
        go_roundw
        case rel => exact ⟨x ++ [b], r.drop k, by simp, hown3, HS.out, hb2.trans hb3⟩
        case measure => simp [strLen, ByteArray.size]; omega

theorem Unquote_any (l : List UInt8) (w : World) (hl : l.length ≤ 1000000) :
    Calls Try.prog 14 #[.string ⟨l.toArray⟩] w fun e w' => e = .returned (unqV l) ∧ Below w.heap.size w w' := by
  by_cases h2 : l.length < 2
  · exact Unquote_no l w hl (.inl h2)
  · match l, h2 with
    | c :: r, h2 =>
      have hne : r ≠ [] := by rintro rfl; simp at h2
      have hr := List.dropLast_concat_getLast hne
      generalize r.dropLast = t at hr
      generalize r.getLast hne = d at hr
      subst hr
      by_cases hc : c = 34 ∧ d = 34
      · obtain ⟨rfl, rfl⟩ := hc
        exact Unquote_yes t w (by simp at hl; omega)
      · refine Unquote_no _ w hl (.inr ⟨c, t, d, rfl, ?_⟩)
        rcases Decidable.em (c = 34) with h | h
        · exact .inr fun e => hc ⟨h, e⟩
        · exact .inl h

theorem word_any (l : List UInt8) (w : World) (hl : l.length ≤ 1000000) :
    Calls Try.prog 27 #[.string ⟨l.toArray⟩] w fun e w' => e = .returned (.bool (wordB l)) ∧ Below w.heap.size w w' := by
  cases hp : plainB l
  · have hW := Lib.hid (show wordB l = (unquoteB l).isSome by simp [wordB, hp])
    go_enter Try.func27, Try.ntmps27
    go_wp2_with fail
    refine (Plain_any l _ hl).mono ?_
    rintro e w' ⟨rfl, rfl⟩
    rw [hp]
    go_wp2_with fail
    refine (Unquote_any l _ hl).mono ?_
    rintro e w' ⟨rfl, hB⟩
    unfold unqV
    go_wp2
    go_ret
    exact ⟨by rw [hW.out]; rfl, hB⟩
  · have hW := Lib.hid (show wordB l = true by simp [wordB, hp])
    go_enter Try.func27, Try.ntmps27
    go_wp2_with fail
    refine (Plain_any l _ hl).mono ?_
    rintro e w' ⟨rfl, rfl⟩
    rw [hp]
    go_wp2
    go_ret
    exact ⟨by rw [hW.out]; rfl, Below.refl _ _⟩
end Go.Proofs.Ythhnkakobjbdlaa
