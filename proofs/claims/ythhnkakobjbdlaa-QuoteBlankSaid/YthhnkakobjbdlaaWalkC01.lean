/- Walks: quote.first. -/
import Derived.Test.YthhnkakobjbdlaaPure01b
import Derived.Test.YthhnkakobjbdlaaWalkA01
import Derived.Test.YthhnkakobjbdlaaShelf
set_option linter.unusedVariables false
set_option linter.unusedSimpArgs false
namespace Go.Proofs.Ythhnkakobjbdlaa
open Go.RowKit

def ixB (c : UInt8) : Int := if idx16 c < 16 then (idx16 c : Int) else -1
theorem ixB_lib_all : ∀ n : Fin 256, Lib.indexByte hexDigits (UInt8.ofNat n.val) = ixB (UInt8.ofNat n.val) := by decide +kernel
theorem ixB_lib (c : UInt8) : Lib.indexByte hexDigits c = ixB c := by
  have := ixB_lib_all ⟨c.toNat, c.toNat_lt⟩
  simpa using this
theorem or_all : ∀ (h l : Fin 16), bits BinOp.or IntKind.i64 (((h.val : Nat) : Int) * 16) ((l.val : Nat) : Int) = ((h.val : Nat) : Int) * 16 + ((l.val : Nat) : Int) := by decide +kernel

theorem hexIndex_any (c : UInt8) (w : World) :
    Calls Try.prog 32 #[.string ⟨#[48, 49, 50, 51, 52, 53, 54, 55, 56, 57, 97, 98, 99, 100, 101, 102]⟩, .int .u8 (c.toNat : Int)] w fun e w' => e = .returned (.int .i64 (ixB c)) ∧ w' = w := by
  have := Try.strings_IndexByte ⟨#[48, 49, 50, 51, 52, 53, 54, 55, 56, 57, 97, 98, 99, 100, 101, 102]⟩ (c.toNat : Int) w
  have e : (c.toNat : Int).toNat.toUInt8 = c := by simp
  rw [e] at this
  rw [← ixB_lib]; exact this

def firstR (l : List UInt8) : UInt8 × Nat := (firstB l).getD (0, 0)

def firstV (l : List UInt8) : Value := .tuple #[.int .u8 ((firstR l).1.toNat : Int), .int .i64 ((firstR l).2 : Int)]
theorem firstV_none {l : List UInt8} (h : firstB l = none) : firstV l = .tuple #[.int .u8 0, .int .i64 0] := by simp [firstV, firstR, h]
theorem firstV_some {l : List UInt8} {b : UInt8} {k : Nat} (h : firstB l = some (b, k)) : firstV l = .tuple #[.int .u8 (b.toNat : Int), .int .i64 (k : Int)] := by simp [firstV, firstR, h]

theorem ixB_lt {c : UInt8} (h : ixB c < 0) : ¬ idx16 c < 16 := by
  unfold ixB at h; split at h <;> omega
theorem ixB_ge {c : UInt8} (h : ¬ ixB c < 0) : idx16 c < 16 ∧ ixB c = idx16 c := by
  unfold ixB at h ⊢; split at h
  · rename_i g; exact ⟨g, by rw [if_pos g]⟩
  · omega
theorem or_at {h l : Nat} (hh : h < 16) (hl : l < 16) : bits BinOp.or IntKind.i64 (wrap64 ((h : Int) * 16)) (l : Int) % 256 = ((16 * h + l).toUInt8.toNat : Int) := by
  rw [IntWalk.wrap64_in _ (by omega), byte_join hh hl, or_all ⟨h, hh⟩ ⟨l, hl⟩]
  show ((h : Int) * 16 + (l : Int)) % 256 = _
  omega
theorem firstB_four (c e h lo : UInt8) (t : List UInt8) (hc : bareB c = false) : firstB (c :: e :: h :: lo :: t) = if c = 92 ∧ e = 120 ∧ idx16 h < 16 ∧ idx16 lo < 16 ∧ bareB (16 * idx16 h + idx16 lo).toUInt8 = false then some ((16 * idx16 h + idx16 lo).toUInt8, 4) else none := by
  have hE : firstB (c :: e :: h :: lo :: t) = if bareB c = true then some (c, 1) else if c = 92 ∧ e = 120 ∧ idx16 h < 16 ∧ idx16 lo < 16 ∧ bareB (16 * idx16 h + idx16 lo).toUInt8 = false then some ((16 * idx16 h + idx16 lo).toUInt8, 4) else none := rfl
  rw [hE, if_neg (by simp [hc])]

set_option maxHeartbeats 1600000 in
/-- Where the form is of four bytes. -/
theorem first_four (c e h lo : UInt8) (t : List UInt8) (hc : bareB c = false) (w : World) (hl : t.length ≤ 1000000) :
    Calls Try.prog 24 #[.string ⟨(c :: e :: h :: lo :: t).toArray⟩] w fun x w' => x = .returned (firstV (c :: e :: h :: lo :: t)) ∧ Below w.heap.size w w' := by
  have hF := Lib.hid (firstB_four c e h lo t hc)
  cases h1 : ((c.toNat : Int) != 92)
  · cases h2 : ((e.toNat : Int) != 120)
    · have hce : Hid (c = 92 ∧ e = 120) := by
        refine ⟨UInt8.toNat_inj.1 ?_, UInt8.toNat_inj.1 ?_⟩ <;> simp at h1 h2 <;> simp <;> omega
      by_cases h3 : ixB h < 0
      · have hV := Lib.hid (firstV_none (hF.out.trans (if_neg (fun g => ixB_lt h3 g.2.2.1))))
        clear hF hce
        go_enter Try.func24, Try.ntmps24
        go_wp2_with (first | (go_at_call 21; refine (bare_any _ _).mono ?_; rintro e w' ⟨rfl, rfl⟩))
        go_quiet ((go_at_call 32; exact Calls.quiet_of_same (hexIndex_any _ _)))
        go_wp2
        go_ret2
        exact ⟨by rw [hV.out]; rfl, below_drewN (Below.refl _ _) _⟩
      · by_cases h4 : ixB lo < 0
        · have hV := Lib.hid (firstV_none (hF.out.trans (if_neg (fun g => ixB_lt h4 g.2.2.2.1))))
          clear hF hce
          go_enter Try.func24, Try.ntmps24
          go_wp2_with (first | (go_at_call 21; refine (bare_any _ _).mono ?_; rintro e w' ⟨rfl, rfl⟩))
          go_quiet ((go_at_call 32; exact Calls.quiet_of_same (hexIndex_any _ _)))
          go_wp2
          go_ret2
          exact ⟨by rw [hV.out]; rfl, below_drewN (Below.refl _ _) _⟩
        · obtain ⟨i3, e3⟩ := ixB_ge h3
          obtain ⟨i4, e4⟩ := ixB_ge h4
          have hO := or_at i3 i4
          rw [← e3, ← e4] at hO
          have HO := Lib.hid hO
          have E3 := Lib.hid e3
          have E4 := Lib.hid e4
          clear e3 e4 hO
          obtain ⟨b, hb⟩ : ∃ b, b = (16 * idx16 h + idx16 lo).toUInt8 := ⟨_, rfl⟩
          rw [← hb] at HO hF
          have HB := Lib.hid hb
          clear hb
          cases hbb : bareB b
          · have hV := Lib.hid (firstV_some (hF.out.trans (if_pos ⟨hce.out.1, hce.out.2, i3, i4, hbb⟩)))
            clear hF hce
            go_enter Try.func24, Try.ntmps24
            go_wp2_with (first | (go_at_call 21; refine (bare_any _ _).mono ?_; rintro e w' ⟨rfl, rfl⟩))
            go_quiet ((go_at_call 32; exact Calls.quiet_of_same (hexIndex_any _ _)))
            go_wp2_with fail
            rw [HO.out]
            refine (bare_any _ _).mono ?_
            rintro x w' ⟨rfl, rfl⟩
            go_wp2
            go_ret2
            exact ⟨by rw [hV.out]; rfl, below_drewN (Below.refl _ _) _⟩
          · have hV := Lib.hid (firstV_none (hF.out.trans (if_neg (fun g => by rw [hbb] at g; exact absurd g.2.2.2.2 (by decide)))))
            clear hF hce
            go_enter Try.func24, Try.ntmps24
            go_wp2_with (first | (go_at_call 21; refine (bare_any _ _).mono ?_; rintro e w' ⟨rfl, rfl⟩))
            go_quiet ((go_at_call 32; exact Calls.quiet_of_same (hexIndex_any _ _)))
            go_wp2_with fail
            rw [HO.out]
            refine (bare_any _ _).mono ?_
            rintro x w' ⟨rfl, rfl⟩
            go_wp2
            go_ret2
            exact ⟨by rw [hV.out]; rfl, below_drewN (Below.refl _ _) _⟩
    · have hV := Lib.hid (firstV_none (hF.out.trans (if_neg (fun g => by rw [g.2.1] at h2; exact absurd h2 (by decide)))))
      clear hF
      go_enter Try.func24, Try.ntmps24
      go_wp2_with (first | (go_at_call 21; refine (bare_any _ _).mono ?_; rintro e w' ⟨rfl, rfl⟩))
      go_ret2
      exact ⟨by rw [hV.out]; rfl, Below.refl _ _⟩
  · have hV := Lib.hid (firstV_none (hF.out.trans (if_neg (fun g => by rw [g.1] at h1; exact absurd h1 (by decide)))))
    clear hF
    go_enter Try.func24, Try.ntmps24
    go_wp2_with (first | (go_at_call 21; refine (bare_any _ _).mono ?_; rintro e w' ⟨rfl, rfl⟩))
    go_ret2
    exact ⟨by rw [hV.out]; rfl, Below.refl _ _⟩

theorem first_bare (c : UInt8) (t : List UInt8) (hc : bareB c = true) (w : World) (hl : t.length ≤ 1000000) :
    Calls Try.prog 24 #[.string ⟨(c :: t).toArray⟩] w fun x w' => x = .returned (firstV (c :: t)) ∧ Below w.heap.size w w' := by
  have hV := Lib.hid (firstV_some (show firstB (c :: t) = some (c, 1) by simp [firstB, hc]))
  go_enter Try.func24, Try.ntmps24
  go_wp2_with (first | (go_at_call 21; refine (bare_any _ _).mono ?_; rintro e w' ⟨rfl, rfl⟩))
  go_ret2
  exact ⟨by rw [hV.out]; rfl, Below.refl _ _⟩

theorem first_short (c : UInt8) (t : List UInt8) (hc : bareB c = false) (w : World) (hl : t.length < 3) :
    Calls Try.prog 24 #[.string ⟨(c :: t).toArray⟩] w fun x w' => x = .returned (firstV (c :: t)) ∧ Below w.heap.size w w' := by
  have h0 : firstB (c :: t) = none := by
    match t, hl with
    | [], _ => simp [firstB, hc]
    | [_], _ => simp [firstB, hc]
    | [_, _], _ => simp [firstB, hc]
  have hV := Lib.hid (firstV_none h0)
  clear h0
  go_enter Try.func24, Try.ntmps24
  go_wp2_with (first | (go_at_call 21; refine (bare_any _ _).mono ?_; rintro e w' ⟨rfl, rfl⟩))
  go_ret2
  exact ⟨by rw [hV.out]; rfl, Below.refl _ _⟩

theorem first_any (l : List UInt8) (hn : l ≠ []) (w : World) (hl : l.length ≤ 1000000) :
    Calls Try.prog 24 #[.string ⟨l.toArray⟩] w fun x w' => x = .returned (firstV l) ∧ Below w.heap.size w w' := by
  match l, hn with
  | c :: t, _ =>
    cases hc : bareB c
    · by_cases h3 : t.length < 3
      · exact first_short c t hc w h3
      · match t, h3 with
        | e :: h :: lo :: t, _ => exact first_four c e h lo t hc w (by simp at hl; omega)
        | [], h3 => exact absurd (by simp) h3
        | [_], h3 => exact absurd (by simp) h3
        | [_, _], h3 => exact absurd (by simp) h3
    · exact first_bare c t hc w (by simp at hl; omega)
end Go.Proofs.Ythhnkakobjbdlaa
