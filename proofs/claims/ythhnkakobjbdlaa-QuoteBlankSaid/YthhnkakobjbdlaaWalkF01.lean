/- Walks: the document's own Quote and Unquote. -/
import Derived.Test.YthhnkakobjbdlaaPure01d
import Derived.Test.YthhnkakobjbdlaaWalkD01
import Derived.Deep.LoopGhost
set_option linter.unusedVariables false
set_option linter.unusedSimpArgs false
namespace Go.Proofs.Ythhnkakobjbdlaa
open Go.RowKit

attribute [go_sem] ByteArray.mk_append_mk

theorem refQuote_any (l : List UInt8) (w : World) (hl : l.length ≤ 1000000) :
    Calls Try.prog 11 #[.string ⟨l.toArray⟩] w fun e w' => e = .returned (.string ⟨(quoteB l).toArray⟩) ∧ Below w.heap.size w w' := by
  go_enter Try.func11, Try.ntmps11
  go_wp2
  go_loopw [3, 4] (fun s i wr => ∃ k : Nat, k ≤ l.length ∧ i = .int .i64 k ∧ s = .string ⟨(34 :: formsB (l.take k)).toArray⟩ ∧ Below w.heap.size w wr) (fun _ i _ => l.length - (intOf i).toNat)
  case atStart => exact ⟨0, Nat.zero_le _, rfl, rfl, Below.refl _ _⟩
  case round =>
    obtain ⟨k, hk, rfl, rfl, hb⟩ := hrel
    have hfl := formsB_take_len l k
    by_cases hlt : k < l.length
    · have hsn := Lib.hid (formsB_snoc l k hlt)
      have h4 := formB_len l[k]
      go_wp2_with fail
      refine (Byte_any _ _).mono ?_
      rintro e w2 ⟨rfl, hB⟩
      go_wp2
      go_roundw
      case rel => exact ⟨k + 1, by omega, by go_num, by rw [hsn.out], hb.trans (hB.mono hb.size)⟩
      case measure => simp [intOf]; omega
    · obtain rfl : k = l.length := by omega
      rw [List.take_length] at hfl ⊢
      go_wp2
      go_ret
      exact ⟨rfl, hb⟩

set_option maxHeartbeats 1000000 in
theorem refUnquote_any (l : List UInt8) (w : World) (hl : l.length ≤ 200000) :
    Calls Try.prog 15 #[.string ⟨l.toArray⟩] w fun e w' => e = .returned (unqV l) ∧ Below w.heap.size w w' := by
  obtain ⟨i0, hi, hz0, hz1, hz2⟩ := info_parts Try.info5
  go_enter Try.func15, Try.ntmps15
  go_wp2
  go_loopg [4, 5] l.length (fun g s4 s5 wr => ∃ (o : List UInt8) (p : Nat), s5 = .int .i64 p ∧ p ≤ l.length + 1 ∧ o.length ≤ p ∧ l.length ≤ p + g ∧ wr.ownsRow w.heap.size 5 1 s4 o.length (bytesV o) ∧ Aside (RefAt l o p) ∧ Below w.heap.size w wr)
  case atStart => exact ⟨[], 1, rfl, by omega, by simp, by omega, World.ownsRow_nil _ _ _ _, refAt_start l, Below.refl _ _⟩
  case round =>
    obtain ⟨o, p, rfl, hp, hop, hpg, hown, HR, hb⟩ := hrel
    by_cases hlt : p + 1 < l.length
    · cases h92 : ((l[p].toNat : Int) == 92)
      · have hno : ¬ (l[p] = 92 ∧ p + 3 < l.length) := by intro e; rw [e.1] at h92; exact absurd h92 (by decide)
        have HR2 := Lib.hid (refAt_bare HR.out hlt (List.getElem?_eq_getElem (by omega)) hno)
        clear HR hno
        go_wp2_with (at_builtin; refine wpList_append_new rfl (.tmp 56) (.tmp 60) 36 5 rfl Try.underlying36 hi hz0 hz1 hz2 rfl (by decide) (by decide) w.heap.size _ 1 rfl rfl hown rfl (by simp [Value.oneCell']) (by omega) hb.size ?_; intro v3 w3 hown3 hb3)
        go_roundg (gk - 1)
        case measure => omega
        case rel => exact ⟨o ++ [l[p]], p + 1, by go_num, by omega, by simp; omega, by omega, by simpa [bytesV] using hown3, HR2.out, hb.trans hb3⟩
      · by_cases h3 : p + 3 < l.length
        · have K92 : Hid (l[p] = 92) := UInt8.toNat_inj.1 (by simp at h92; simp; omega)
          obtain ⟨wo, rfl⟩ : ∃ wo : World, wo = wr := ⟨_, rfl⟩
          obtain ⟨G, rfl⟩ : ∃ G, gk = G + 1 := ⟨gk - 1, by omega⟩
          go_wp2
          go_loopg [6, 7] 2 (fun g s6 s7 wy => ∃ q m : Nat, s7 = .int .i64 q ∧ s6 = .int .i64 m ∧ q + g = p + 4 ∧ p + 2 ≤ q ∧ m ≤ 1000 ∧ Aside (m = nvB (l[p + 2]'(by omega)) (l[p + 3]'h3) (q - (p + 2))) ∧ Below wo.heap.size wo wy)
          case atStart => exact ⟨p + 2, 0, by go_num, rfl, by omega, by omega, by omega, by (show _ = _; simp [nvB]), Below.refl _ _⟩
          case round =>
            obtain ⟨q, m, rfl, rfl, hqg, hq2, hm, HM, hby⟩ := hrel
            by_cases hq : q < p + 4
            · have hql : q < l.length := by omega
              obtain ⟨wq, rfl⟩ : ∃ wq : World, wq = wr := ⟨_, rfl⟩
              obtain ⟨g2, rfl⟩ : ∃ g2, gk = g2 + 1 := ⟨gk - 1, by omega⟩
              go_wp2
              go_loopg [8] 16 (fun g s8 wy => ∃ d : Nat, s8 = .int .i64 d ∧ d + g = 16 ∧ Aside (∀ j, j < d → hexD j ≠ l[q]) ∧ Below wq.heap.size wq wy)
              case atStart => exact ⟨0, rfl, by omega, fun j hj => absurd hj (by omega), Below.refl _ _⟩
              case round =>
                obtain ⟨d, rfl, hdg, HD, hbd⟩ := hrel
                have hb2 := hby.trans (hbd.mono hby.size)
                have hiq := idx16_le l[q]
                have HN : Hid (16 * m + idx16 l[q] ≤ 1000) := by
                  show _ ≤ _
                  have h1 := nvB_le (l[p + 2]'(by omega)) (l[p + 3]'h3) (q + 1 - (p + 2))
                  rw [nvB_step h3 hq2 hq, ← HM.out] at h1
                  exact h1
                by_cases hd : d < 16
                · have hd0 : (0 : Int) ≤ (d : Int) := by omega
                  have hd1 : (d : Int) < 16 := by omega
                  have hq0 : (0 : Int) ≤ (q : Int) := by omega
                  have hq1 : (q : Int) < (l.length : Int) := by omega
                  have hh := hex_atN d (show d < hexDigits.length from hd)
                  unfold hexDigits at hh
                  have HHH := Lib.hid hh
                  clear hh
                  cases ht : ((([48, 49, 50, 51, 52, 53, 54, 55, 56, 57, 97, 98, 99, 100, 101, 102] : List UInt8)[d]'hd).toNat : Int) != (l[q].toNat : Int)
                  · have HI := Lib.hid (idx16_of (Nat.le_of_lt hd) HD.out (fun _ => by rw [← HHH.out]; exact UInt8.toNat_inj.1 (by simp at ht; omega)))
                    go_wp2
                    go_quiet (fail)
                    go_wp2
                    go_roundg g2
                    case measure => omega
                    case rel => exact ⟨q + 1, 16 * m + d, by go_num, by go_num, by omega, by omega, by (have := HN.out; rw [HI.out] at this; exact this), by (show _ = _; rw [nvB_step h3 hq2 hq, ← HM.out, HI.out]), below_drewN hb2 _⟩
                  · have HI : Hid (∀ j, j < d + 1 → hexD j ≠ l[q]) := by
                      intro j hj
                      rcases Nat.lt_or_ge j d with h | h
                      · exact HD.out j h
                      · obtain rfl : j = d := by omega
                        rw [← HHH.out]
                        intro e
                        rw [e] at ht
                        simp at ht
                    go_wp2
                    go_quiet (fail)
                    go_wp2
                    go_roundg (gk - 1)
                    case measure => omega
                    case rel => exact ⟨d + 1, by go_num, by omega, HI.out, below_drewN hbd _⟩
                · have hdf : decide ((d : Int) < 16) = false := by simp; omega
                  obtain rfl : d = 16 := by omega
                  have HI := Lib.hid (idx16_of (Nat.le_refl 16) HD.out (fun h => absurd h (by omega)))
                  go_wp2
                  go_quiet (fail)
                  go_wp2
                  go_roundg g2
                  case measure => omega
                  case rel => exact ⟨q + 1, 16 * m + 16, by go_num, by go_num, by omega, by omega, by (have := HN.out; rw [HI.out] at this; exact this), by (show _ = _; rw [nvB_step h3 hq2 hq, ← HM.out, HI.out]), below_drewN hb2 _⟩
            · have hno : ¬ q < p + 4 := hq
              obtain rfl : q = p + 4 := by omega
              have hHX := refAt_hex HR.out h3 (by rw [List.getElem?_eq_getElem (by omega), K92.out]) (List.getElem?_eq_getElem (by omega)) (List.getElem?_eq_getElem h3)
              have hmv : m = 16 * idx16 (l[p + 2]'(by omega)) + idx16 (l[p + 3]'h3) := by
                have := HM.out
                rw [show p + 4 - (p + 2) = 2 by omega] at this
                exact this
              rw [← hmv] at hHX
              have HX := Lib.hid hHX
              have hb2 := hb.trans (hby.mono hb.size)
              have hown2 := own_keep hown hby
              clear hHX hmv HM HR hown hby
              go_wp2_with (at_builtin; refine wpList_append_new rfl (.tmp 49) (.tmp 52) 36 5 rfl Try.underlying36 hi hz0 hz1 hz2 rfl (by decide) (by decide) w.heap.size _ 1 rfl rfl hown2 rfl (by simp [Value.oneCell']) (by omega) hb2.size ?_; intro v3 w3 hown3 hb3)
              go_roundg G
              case measure => omega
              case rel => exact ⟨o ++ [m.toUInt8], p + 4, by go_num, by omega, by simp; omega, by omega, by simpa [bytesV] using hown3, HX.out, hb2.trans hb3⟩
        · have hno : ¬ (l[p] = 92 ∧ p + 3 < l.length) := fun e => h3 e.2
          have HR2 := Lib.hid (refAt_bare HR.out hlt (List.getElem?_eq_getElem (by omega)) hno)
          clear HR hno
          go_wp2_with (at_builtin; refine wpList_append_new rfl (.tmp 56) (.tmp 60) 36 5 rfl Try.underlying36 hi hz0 hz1 hz2 rfl (by decide) (by decide) w.heap.size _ 1 rfl rfl hown rfl (by simp [Value.oneCell']) (by omega) hb.size ?_; intro v3 w3 hown3 hb3)
          go_roundg (gk - 1)
          case measure => omega
          case rel => exact ⟨o ++ [l[p]], p + 1, by go_num, by omega, by simp; omega, by omega, by simpa [bytesV] using hown3, HR2.out, hb.trans hb3⟩
    · have hcv := run_own_string (P := Try.prog) (l := o) 36 9 Try.underlying36 Try.underlying5 Try.underlying9 hown
      go_wp2_with fail
      refine (refQuote_any o _ (by omega)).mono ?_
      rintro e w2 ⟨rfl, hB⟩
      have hown2 := own_keep hown hB
      have hcv2 := run_own_string (P := Try.prog) (l := o) 36 9 Try.underlying36 Try.underlying5 Try.underlying9 hown2
      by_cases hq : quoteB o = l
      · have HV := Lib.hid (unqV_some (refAt_end_yes hq))
        have hqe : (quoteB o == l) = true := by simpa using hq
        clear hcv hown hq HR
        go_wp2
        go_ret2
        exact ⟨by rw [HV.out]; rfl, hb.trans (hB.mono hb.size)⟩
      · have HV := Lib.hid (unqV_none (refAt_end_no HR.out hlt hq))
        have hqe : (quoteB o == l) = false := by simpa using hq
        clear hcv hown hq HR
        go_wp2
        go_ret2
        exact ⟨by rw [HV.out]; rfl, hb.trans (hB.mono hb.size)⟩
end Go.Proofs.Ythhnkakobjbdlaa
