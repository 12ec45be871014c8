/- For whatever parts and text: parts of names that may be are read of their text as they were; a plain path's names make it again; what is read, put and read, is the same (no condition). -/
import Derived.Test.YtgonjgbdggpedaaLawBase03
import Derived.Deep.RegionWith
import Derived.Deep.Cut
import Derived.Deep.LoopGhost
namespace Go.Proofs.Ytgonjgbdggpedaa
open Go.ChangeShapes Go.WideShapes Go.ChangeAt Go.RowKit
open Go.ChangeMaps (open_string shut_string)
set_option linter.unusedVariables false

theorem few_joinsE {ns : List (List UInt8)} (h : fewB ns = true) : ns.length ≤ 40 ∧ (tailB ns).length ≤ 20000 ∧ (interB ns).length ≤ 20000 := by
  obtain ⟨h1, h2⟩ := fewB_small h
  have h3 := interB_len_tail ns
  have h4 := tailB_len ns 300 h2
  have h5 : ns.length * 301 ≤ 40 * 301 := Nat.mul_le_mul h1 (by omega)
  refine ⟨h1, ?_, ?_⟩ <;> omega

theorem wpAny_listed {P : Program} {md : Region.Mode} {ops : Array Oper} {Q : Exit → Act → World → Prop} {fuel : Nat} {l lst : Array Bool} {a : Act} {w : World} (h : l = lst) (k : wpAny P md ops Q fuel lst a w) : wpAny P md ops Q fuel l a w := by subst h; exact k
/-- Ways that meet again in a state that a value and a world tell. -/
theorem join_at {G : Prop} (F P4 : Value → World → Prop) (use : (∀ v w, F v w → P4 v w) → G) (key : ∀ v w, F v w → P4 v w) : G := use key
theorem strs_cells {w : World} {a : Option Addr} {n c : Nat} {l : List (List UInt8)} (h : Strs w (.slice a n c) l) : 0 < l.length → ∃ b off, a = some ⟨b, off, none⟩ ∧ b < w.heap.size ∧ ∀ i (h : i < l.length), w.cell? ⟨b, off + i, none⟩ = some (.string ⟨l[i].toArray⟩) := by
  obtain ⟨a', c', e, _, h1⟩ := h; cases e; exact h1
theorem same_yes (a s : Bool) (l : List (List UInt8)) (v1 v2 : Value) (w : World) (h1 : Strs w v1 l) (h2 : Strs w v2 l) :
    Calls Try.prog 10 #[.agg (pathV a v1 s), .agg (pathV a v2 s)] w fun e w' => e = .returned (.bool true) ∧ Below w.heap.size w w' := by
  refine (same_any a s a s l l v1 v2 w h1 h2).mono ?_
  rintro e w' ⟨rfl, hB⟩
  exact ⟨ret_bool (by simp), hB⟩
theorem Join_eq (ns : List (List UInt8)) (p : List UInt8) (v : Value) (w : World) (hv : Strs w v ns) (hl : ns.length ≤ 1000000 ∧ (interB ns).length ≤ 1000000) (h : joinB ns = p) :
    Calls Try.prog 18 #[v] w fun e w' => e = .returned (.string ⟨p.toArray⟩) ∧ Below w.heap.size w w' := by
  have := Join_any ns v w hv hl.1 hl.2
  rw [h] at this; exact this
theorem all_take (ns : List (List UInt8)) (k : Nat) (h : k < ns.length) : (ns.take (k + 1)).all mayB = ((ns.take k).all mayB && mayB ns[k]) := by
  rw [List.take_succ_eq_append_getElem h, List.all_append]; simp
theorem read_again (p : List UInt8) : (absB (putB (absB p) (namesB p) (slashB p)), namesB (putB (absB p) (namesB p) (slashB p)), slashB (putB (absB p) (namesB p) (slashB p))) = (absB p, namesB p, slashB p) := by
  rw [absB_put _ _ _ (namesB_good p), namesB_put _ _ _ (namesB_good p), slashB_put _ _ _ (namesB_good p), slashB_eq]
theorem putB_len (a s : Bool) (ns : List (List UInt8)) : (putB a ns s).length ≤ (interB ns).length + 2 := by
  unfold putB; cases a <;> cases (s && !ns.isEmpty) <;> simp

theorem back_twice (a s : Bool) (ns : List (List UInt8)) (v : Value) (p : List UInt8) (w : World) (hv : Strs w v ns) (hp : p.length ≤ 9223372036854775807) (h : fewB ns = false ∨ 5000 < p.length) :
    Calls Try.prog 7 #[.agg (pathV a v s), .string ⟨p.toArray⟩] w fun e w' => e = .returned (.bool true) ∧ Below w.heap.size w w' := by
  have x0 := Blk.new w 26 (pathV a v s)
  have t0 : Below w.heap.size w (w.alloc (.cells (pathV a v s) 26)) := (Below.refl _ w).alloc (Nat.le_refl _) _
  have HV := Lib.hid (hv.below t0)
  obtain ⟨ad, cap, rfl, _, _⟩ := hv
  go_enter Try.func7, Try.ntmps7
  go_wp2_with fail
  generalize w.alloc (.cells (pathV a (.slice ad ns.length cap) s) 26) = W at *
  refine (awake_any _).mono ?_
  rintro e w1 ⟨rfl, b1⟩
  have hv1 := HV.out.below b1
  have x1 := x0.next b1
  have h1 := t0.trans (b1.mono t0.size)
  have q1 := x1.cell 1
  simp [pathV] at q1
  clear x0 t0 HV b1
  go_wp2_with fail; refine (Few_any ns _ _ hv1).mono ?_; rintro e w2 ⟨rfl, rfl⟩
  cases hf : fewB ns
  · clear q1 h
    go_wp2_with fail; refine (awake_any _).mono ?_; rintro e w2 ⟨rfl, b2⟩
    go_wp2
    go_ret
    exact ⟨rfl, h1.trans (b2.mono h1.size)⟩
  · have h2 : 5000 < p.length := h.resolve_left (by simp [hf])
    clear q1 h
    go_wp2_with fail; refine (awake_any _).mono ?_; rintro e w2 ⟨rfl, b2⟩
    go_wp2
    go_ret
    exact ⟨rfl, h1.trans (b2.mono h1.size)⟩

set_option maxRecDepth 1000000 in
set_option maxHeartbeats 16000000 in
theorem lawBack (a s : Bool) (ns : List (List UInt8)) (v : Value) (p : List UInt8) (w : World) (hv : Strs w v ns) (hp : p.length ≤ 9223372036854775807) :
    Calls Try.prog 7 #[.agg (pathV a v s), .string ⟨p.toArray⟩] w fun e w' => e = .returned (.bool true) ∧ Below w.heap.size w w' := by
  cases hf : fewB ns
  · exact back_twice a s ns v p w hv hp (.inl hf)
  by_cases h5 : 5000 < p.length
  · exact back_twice a s ns v p w hv hp (.inr h5)
  obtain ⟨f1, f2, f3⟩ := few_joinsE hf
  obtain ⟨_, f4⟩ := fewB_small hf
  have HL := Lib.hid f4
  have g1 := namesB_count p
  have g2 := namesB_total p
  have hTl : Hid ((putB (absB p) (namesB p) (slashB p)).length ≤ 1000000) := by have := putB_len (absB p) (slashB p) (namesB p); (show _ ≤ _); omega
  have hTr := Lib.hid (read_again p)
  have x0 := Blk.new w 26 (pathV a v s)
  have t0 : Below w.heap.size w (w.alloc (.cells (pathV a v s) 26)) := (Below.refl _ w).alloc (Nat.le_refl _) _
  have HV := Lib.hid (hv.below t0)
  obtain ⟨ad, cap, rfl, _, _⟩ := hv
  go_enter Try.func7, Try.ntmps7
  go_wp2_with fail
  generalize w.alloc (.cells (pathV a (.slice ad ns.length cap) s) 26) = W at *
  refine (awake_any _).mono ?_
  rintro e w1 ⟨rfl, b1⟩
  have hv1 := HV.out.below b1
  have x1 := x0.next b1
  have h1 := t0.trans (b1.mono t0.size)
  have q1 := x1.cell 1
  simp [pathV] at q1
  clear x0 t0 HV b1 f4
  go_wp2_with fail; refine (Few_any ns _ _ hv1).mono ?_; rintro e w2 ⟨rfl, rfl⟩
  rw [hf]
  clear hf
  have hlt1 := x1.lt
  have HC := Lib.hid (strs_cells hv1)
  go_wp2
  go_loopw [5, 6] (fun s5 s6 wr => ∃ k : Nat, k ≤ ns.length ∧ s6 = .int .i64 k ∧ s5 = .bool ((ns.take k).all mayB) ∧ Below w1.heap.size w1 wr) (fun _ i _ => ns.length - (intOf i).toNat)
  case atStart => exact ⟨0, Nat.zero_le _, rfl, rfl, Below.refl _ _⟩
  case round =>
    obtain ⟨k, hk, rfl, rfl, hbl⟩ := hrel
    have xr := x1.next hbl
    have q1r : wr.cell? ⟨w.heap.size, 1, none⟩ = some (.slice ad ns.length cap) := (xr.cell 1).trans rfl
    by_cases hlt : k < ns.length
    · obtain ⟨ba, oa, rfl, hba, hca⟩ := HC.out (by omega)
      have c1 : wr.cell? ⟨ba, oa + k, none⟩ = some (.string ⟨ns[k].toArray⟩) := (hbl.cell (p := ⟨ba, oa + k, none⟩) hba).trans (hca k hlt)
      clear hca
      have hks := HL.out _ (List.getElem_mem hlt)
      cases hfit : (ns.take k).all mayB
      · have hN : Hid ((ns.take (k + 1)).all mayB = false) := by (show _ = _); rw [all_take ns k hlt, hfit]; rfl
        clear hfit
        go_wp2
        go_roundw
        case rel => exact ⟨k + 1, by omega, by go_num, by rw [hN.out], hbl⟩
        case measure => simp [intOf]; omega
      · have hN : Hid ((ns.take (k + 1)).all mayB = mayB ns[k]) := by (show _ = _); rw [all_take ns k hlt, hfit]; rfl
        clear hfit
        go_wp2_with fail; refine (May_any ns[k] _ (by omega)).mono ?_; rintro e w3 ⟨rfl, b3⟩
        go_wp2
        go_roundw
        case rel => exact ⟨k + 1, by omega, by go_num, by rw [hN.out], hbl.trans (b3.mono hbl.size)⟩
        case measure => simp [intOf]; omega
    · obtain rfl : k = ns.length := by omega
      rw [List.take_length]
      have hvr := hv1.below hbl
      have hb := h1.trans (hbl.mono h1.size)
      clear hv1 x1 h1 hbl HC HL
      go_upto_if 43 with (fail)
      go_cut [0, 5] from 13 (fun _ _ wc => Below w.heap.size w wc)
      case first =>
        cases hall : ns.all mayB
        · go_wp2
          go_meet
          case rel => exact hb
        · have hgood := mayB_all hall
          have hd : Hid (decide (ns = ns) = true) := by (show _ = _); simp
          have hJp := Lib.hid (plainB_join hall)
          have hJl : Hid ((joinB ns).length ≤ 100000) := by (show _ ≤ _); unfold joinB; rw [List.length_cons]; omega
          have hPl : Hid ((putB a ns s).length ≤ 1000000) := by have := putB_len a s ns; (show _ ≤ _); omega
          have hPr0 := Lib.hid (show (absB (putB a ns s), namesB (putB a ns s), slashB (putB a ns s)) = (a, ns, (s && !ns.isEmpty)) from by rw [absB_put _ _ _ hgood, namesB_put _ _ _ hgood, slashB_put _ _ _ hgood])
          clear hgood hall
          have q0 : wr.cell? ⟨w.heap.size, 0, none⟩ = some (.bool a) := (xr.cell 0).trans rfl
          have q1 : wr.cell? ⟨w.heap.size, 1, none⟩ = some (.slice ad ns.length cap) := q1r
          have q2 : wr.cell? ⟨w.heap.size, 2, none⟩ = some (.bool s) := (xr.cell 2).trans rfl
          clear q1r
          cases s
          · have hPr : Hid ((absB (putB a ns false), namesB (putB a ns false), slashB (putB a ns false)) = (a, ns, false)) := hPr0.out
            clear hPr0
            go_wp2_with fail; refine (Put_any a false ns _ _ hvr (by omega) (by omega)).mono ?_; rintro e w2 ⟨rfl, c2⟩
            replace hb := hb.trans (c2.mono hb.size)
            have x2 := xr.next c2
            have hv2 := hvr.below c2
            clear c2 xr hvr q0 q1 q2
            go_wp2_with fail; refine (aw_read (putB a ns false) a false ns _ hPl.out hPr.out).mono ?_; rintro e w3 ⟨yv, rfl, sy, c3⟩
            replace hb := hb.trans (c3.mono hb.size)
            have x3 := x2.next c3
            have hv3 := hv2.below c3
            clear c3 x2 hv2
            have SY := Lib.hid sy
            obtain ⟨ya, yc, rfl, _, _⟩ := sy
            have yx := Blk.new w3 26 (pathV a (.slice ya ns.length yc) false)
            have yt : Below w3.heap.size w3 (w3.alloc (.cells (pathV a (.slice ya ns.length yc) false) 26)) := (Below.refl _ w3).alloc (Nat.le_refl _) _
            have sy4 := SY.out.below yt
            have x4 := x3.next yt
            have hv4 := hv3.below yt
            replace hb := hb.trans (yt.mono hb.size)
            have r1 : w3.cell? ⟨w.heap.size, 1, none⟩ = some (.slice ad ns.length cap) := (x3.cell 1).trans rfl
            have l3 := x3.lt
            clear SY yt hv3 x3
            go_wp2_with fail
            clear r1 l3
            generalize w3.alloc (.cells (pathV a (.slice ya ns.length yc) false) 26) = Y4 at *
            refine (Join_any ns _ _ hv4 (by omega) (by omega)).mono ?_
            rintro e w5 ⟨rfl, c5⟩
            have x5 := x4.next c5
            have yx5 := yx.next c5
            have hv5 := hv4.below c5
            have sy5 := sy4.below c5
            replace hb := hb.trans (c5.mono hb.size)
            clear x4 yx hv4 sy4 c5
            go_wp2_with fail; refine (aw_plain (joinB ns) ns _ hJl.out hJp.out).mono ?_; rintro e w6 ⟨pv, rfl, sp, c6⟩
            have x6 := x5.next c6
            have yx6 := yx5.next c6
            have hv6 := hv5.below c6
            have sy6 := sy5.below c6
            replace hb := hb.trans (c6.mono hb.size)
            clear x5 yx5 hv5 sy5 c6
            have SP := Lib.hid sp
            obtain ⟨pa, pc, rfl, _, _⟩ := sp
            have r0 : w6.cell? ⟨w.heap.size, 0, none⟩ = some (.bool a) := (x6.cell 0).trans rfl
            have r1 : w6.cell? ⟨w.heap.size, 1, none⟩ = some (.slice ad ns.length cap) := (x6.cell 1).trans rfl
            have y0 : w6.cell? ⟨w3.heap.size, 0, none⟩ = some (.bool a) := (yx6.cell 0).trans rfl
            have y1 : w6.cell? ⟨w3.heap.size, 1, none⟩ = some (.slice ya ns.length yc) := (yx6.cell 1).trans rfl
            go_wp2_with fail; refine (Same_any ns ns _ _ _ sy6 hv6).mono ?_; rintro e w7 ⟨rfl, c7⟩
            rw [show decide (ns = ns) = true from by simp]
            have x7 := x6.next c7
            have yx7 := yx6.next c7
            have hv7 := hv6.below c7
            have sp7 := SP.out.below c7
            replace hb := hb.trans (c7.mono hb.size)
            clear r0 r1 y0 y1 x6 yx6 hv6 sy6 c7 SP
            have r1 : w7.cell? ⟨w.heap.size, 1, none⟩ = some (.slice ad ns.length cap) := (x7.cell 1).trans rfl
            have r2 : w7.cell? ⟨w.heap.size, 2, none⟩ = some (.bool false) := (x7.cell 2).trans rfl
            have y2 : w7.cell? ⟨w3.heap.size, 2, none⟩ = some (.bool false) := (yx7.cell 2).trans rfl
            go_wp2_with fail; refine (Same_any ns ns _ _ _ sp7 hv7).mono ?_; rintro e w8 ⟨rfl, c8⟩
            rw [show decide (ns = ns) = true from by simp]
            replace hb := hb.trans (c8.mono hb.size)
            clear r1 r2 y2 x7 yx7 hv7 sp7 c8
            go_wp2
            go_meet
            case rel => exact hb
          · by_cases hn : 0 < ns.length
            · have hPr : Hid ((absB (putB a ns true), namesB (putB a ns true), slashB (putB a ns true)) = (a, ns, true)) := by
                have he : ns.isEmpty = false := by rw [List.isEmpty_eq_false_iff]; rintro rfl; simp at hn
                have := hPr0.out; rw [he] at this; exact this
              clear hPr0
              go_wp2_with fail; refine (Put_any a true ns _ _ hvr (by omega) (by omega)).mono ?_; rintro e w2 ⟨rfl, c2⟩
              replace hb := hb.trans (c2.mono hb.size)
              have x2 := xr.next c2
              have hv2 := hvr.below c2
              clear c2 xr hvr q0 q1 q2
              go_wp2_with fail; refine (aw_read (putB a ns true) a true ns _ hPl.out hPr.out).mono ?_; rintro e w3 ⟨yv, rfl, sy, c3⟩
              replace hb := hb.trans (c3.mono hb.size)
              have x3 := x2.next c3
              have hv3 := hv2.below c3
              clear c3 x2 hv2
              have SY := Lib.hid sy
              obtain ⟨ya, yc, rfl, _, _⟩ := sy
              have yx := Blk.new w3 26 (pathV a (.slice ya ns.length yc) true)
              have yt : Below w3.heap.size w3 (w3.alloc (.cells (pathV a (.slice ya ns.length yc) true) 26)) := (Below.refl _ w3).alloc (Nat.le_refl _) _
              have sy4 := SY.out.below yt
              have x4 := x3.next yt
              have hv4 := hv3.below yt
              replace hb := hb.trans (yt.mono hb.size)
              have r1 : w3.cell? ⟨w.heap.size, 1, none⟩ = some (.slice ad ns.length cap) := (x3.cell 1).trans rfl
              have l3 := x3.lt
              clear SY yt hv3 x3
              go_wp2_with fail
              clear r1 l3
              generalize w3.alloc (.cells (pathV a (.slice ya ns.length yc) true) 26) = Y4 at *
              refine (Join_any ns _ _ hv4 (by omega) (by omega)).mono ?_
              rintro e w5 ⟨rfl, c5⟩
              have x5 := x4.next c5
              have yx5 := yx.next c5
              have hv5 := hv4.below c5
              have sy5 := sy4.below c5
              replace hb := hb.trans (c5.mono hb.size)
              clear x4 yx hv4 sy4 c5
              go_wp2_with fail; refine (aw_plain (joinB ns) ns _ hJl.out hJp.out).mono ?_; rintro e w6 ⟨pv, rfl, sp, c6⟩
              have x6 := x5.next c6
              have yx6 := yx5.next c6
              have hv6 := hv5.below c6
              have sy6 := sy5.below c6
              replace hb := hb.trans (c6.mono hb.size)
              clear x5 yx5 hv5 sy5 c6
              have SP := Lib.hid sp
              obtain ⟨pa, pc, rfl, _, _⟩ := sp
              have r0 : w6.cell? ⟨w.heap.size, 0, none⟩ = some (.bool a) := (x6.cell 0).trans rfl
              have r1 : w6.cell? ⟨w.heap.size, 1, none⟩ = some (.slice ad ns.length cap) := (x6.cell 1).trans rfl
              have y0 : w6.cell? ⟨w3.heap.size, 0, none⟩ = some (.bool a) := (yx6.cell 0).trans rfl
              have y1 : w6.cell? ⟨w3.heap.size, 1, none⟩ = some (.slice ya ns.length yc) := (yx6.cell 1).trans rfl
              go_wp2_with fail; refine (Same_any ns ns _ _ _ sy6 hv6).mono ?_; rintro e w7 ⟨rfl, c7⟩
              rw [show decide (ns = ns) = true from by simp]
              have x7 := x6.next c7
              have yx7 := yx6.next c7
              have hv7 := hv6.below c7
              have sp7 := SP.out.below c7
              replace hb := hb.trans (c7.mono hb.size)
              clear r0 r1 y0 y1 x6 yx6 hv6 sy6 c7 SP
              have r1 : w7.cell? ⟨w.heap.size, 1, none⟩ = some (.slice ad ns.length cap) := (x7.cell 1).trans rfl
              have r2 : w7.cell? ⟨w.heap.size, 2, none⟩ = some (.bool true) := (x7.cell 2).trans rfl
              have y2 : w7.cell? ⟨w3.heap.size, 2, none⟩ = some (.bool true) := (yx7.cell 2).trans rfl
              go_wp2_with fail; refine (Same_any ns ns _ _ _ sp7 hv7).mono ?_; rintro e w8 ⟨rfl, c8⟩
              rw [show decide (ns = ns) = true from by simp]
              replace hb := hb.trans (c8.mono hb.size)
              clear r1 r2 y2 x7 yx7 hv7 sp7 c8
              go_wp2
              go_meet
              case rel => exact hb
            · have hPr : Hid ((absB (putB a ns true), namesB (putB a ns true), slashB (putB a ns true)) = (a, ns, false)) := by
                have he : ns.isEmpty = true := by rw [List.isEmpty_iff]; exact List.eq_nil_of_length_eq_zero (by omega)
                have := hPr0.out; rw [he] at this; exact this
              clear hPr0
              go_wp2_with fail; refine (Put_any a true ns _ _ hvr (by omega) (by omega)).mono ?_; rintro e w2 ⟨rfl, c2⟩
              replace hb := hb.trans (c2.mono hb.size)
              have x2 := xr.next c2
              have hv2 := hvr.below c2
              clear c2 xr hvr q0 q1 q2
              go_wp2_with fail; refine (aw_read (putB a ns true) a false ns _ hPl.out hPr.out).mono ?_; rintro e w3 ⟨yv, rfl, sy, c3⟩
              replace hb := hb.trans (c3.mono hb.size)
              have x3 := x2.next c3
              have hv3 := hv2.below c3
              clear c3 x2 hv2
              have SY := Lib.hid sy
              obtain ⟨ya, yc, rfl, _, _⟩ := sy
              have yx := Blk.new w3 26 (pathV a (.slice ya ns.length yc) false)
              have yt : Below w3.heap.size w3 (w3.alloc (.cells (pathV a (.slice ya ns.length yc) false) 26)) := (Below.refl _ w3).alloc (Nat.le_refl _) _
              have sy4 := SY.out.below yt
              have x4 := x3.next yt
              have hv4 := hv3.below yt
              replace hb := hb.trans (yt.mono hb.size)
              have r1 : w3.cell? ⟨w.heap.size, 1, none⟩ = some (.slice ad ns.length cap) := (x3.cell 1).trans rfl
              have l3 := x3.lt
              clear SY yt hv3 x3
              go_wp2_with fail
              clear r1 l3
              generalize w3.alloc (.cells (pathV a (.slice ya ns.length yc) false) 26) = Y4 at *
              refine (Join_any ns _ _ hv4 (by omega) (by omega)).mono ?_
              rintro e w5 ⟨rfl, c5⟩
              have x5 := x4.next c5
              have yx5 := yx.next c5
              have hv5 := hv4.below c5
              have sy5 := sy4.below c5
              replace hb := hb.trans (c5.mono hb.size)
              clear x4 yx hv4 sy4 c5
              go_wp2_with fail; refine (aw_plain (joinB ns) ns _ hJl.out hJp.out).mono ?_; rintro e w6 ⟨pv, rfl, sp, c6⟩
              have x6 := x5.next c6
              have yx6 := yx5.next c6
              have hv6 := hv5.below c6
              have sy6 := sy5.below c6
              replace hb := hb.trans (c6.mono hb.size)
              clear x5 yx5 hv5 sy5 c6
              have SP := Lib.hid sp
              obtain ⟨pa, pc, rfl, _, _⟩ := sp
              have r0 : w6.cell? ⟨w.heap.size, 0, none⟩ = some (.bool a) := (x6.cell 0).trans rfl
              have r1 : w6.cell? ⟨w.heap.size, 1, none⟩ = some (.slice ad ns.length cap) := (x6.cell 1).trans rfl
              have y0 : w6.cell? ⟨w3.heap.size, 0, none⟩ = some (.bool a) := (yx6.cell 0).trans rfl
              have y1 : w6.cell? ⟨w3.heap.size, 1, none⟩ = some (.slice ya ns.length yc) := (yx6.cell 1).trans rfl
              go_wp2_with fail; refine (Same_any ns ns _ _ _ sy6 hv6).mono ?_; rintro e w7 ⟨rfl, c7⟩
              rw [show decide (ns = ns) = true from by simp]
              have x7 := x6.next c7
              have yx7 := yx6.next c7
              have hv7 := hv6.below c7
              have sp7 := SP.out.below c7
              replace hb := hb.trans (c7.mono hb.size)
              clear r0 r1 y0 y1 x6 yx6 hv6 sy6 c7 SP
              have r1 : w7.cell? ⟨w.heap.size, 1, none⟩ = some (.slice ad ns.length cap) := (x7.cell 1).trans rfl
              have r2 : w7.cell? ⟨w.heap.size, 2, none⟩ = some (.bool true) := (x7.cell 2).trans rfl
              have y2 : w7.cell? ⟨w3.heap.size, 2, none⟩ = some (.bool false) := (yx7.cell 2).trans rfl
              go_wp2_with fail; refine (Same_any ns ns _ _ _ sp7 hv7).mono ?_; rintro e w8 ⟨rfl, c8⟩
              rw [show decide (ns = ns) = true from by simp]
              replace hb := hb.trans (c8.mono hb.size)
              clear r1 r2 y2 x7 yx7 hv7 sp7 c8
              go_wp2
              go_meet
              case rel => exact hb
      case rest =>
        clear xr hvr hb q1r
        have hb := hcut
        clear hcut
        go_wp2_with fail; refine (Read_any p (by omega) _).mono ?_; rintro e y1 ⟨zv, rfl, oz, c1⟩
        have sz := own_strs oz
        replace hb := hb.trans (c1.mono hb.size)
        clear oz c1
        have SZ := Lib.hid sz
        obtain ⟨za, zc, rfl, _, _⟩ := sz
        have zx := Blk.new y1 26 (pathV (absB p) (.slice za (namesB p).length zc) (slashB p))
        have zt : Below y1.heap.size y1 (y1.alloc (.cells (pathV (absB p) (.slice za (namesB p).length zc) (slashB p)) 26)) := (Below.refl _ y1).alloc (Nat.le_refl _) _
        have sz1 := SZ.out.below zt
        replace hb := hb.trans (zt.mono hb.size)
        clear SZ zt
        go_wp2_with fail
        generalize y1.alloc (.cells (pathV (absB p) (.slice za (namesB p).length zc) (slashB p)) 26) = Y at *
        refine (Plain_any p _ (by omega)).mono ?_
        rintro e y2 ⟨lv, rfl, sl, c2⟩
        have sz2 := sz1.below c2
        have zx2 := zx.next c2
        replace hb := hb.trans (c2.mono hb.size)
        clear sz1 zx c2
        go_wp2_with fail
        have h2 : Below w.heap.size w y2.drew := hb.drew
        have sz3 : Strs y2.drew (.slice za (namesB p).length zc) (namesB p) := sz2
        have sl3 : Strs y2.drew lv ((plainB p).getD []) := sl
        have zx3 : Blk y2.drew y1.heap.size 26 (pathV (absB p) (.slice za (namesB p).length zc) (slashB p)) := zx2
        have hp0 : y2.drew.cell? ⟨y1.heap.size, 0, none⟩ = some (.bool (absB p)) := (zx3.cell 0).trans rfl
        have hp1 : y2.drew.cell? ⟨y1.heap.size, 1, none⟩ = some (.slice za (namesB p).length zc) := (zx3.cell 1).trans rfl
        have hp2 : y2.drew.cell? ⟨y1.heap.size, 2, none⟩ = some (.bool (slashB p)) := (zx3.cell 2).trans rfl
        clear sz2 zx2 hb sl
        refine wp_region_any (by kernel_rfl) ?_
        try (change wpAny _ _ _ _ _ _ _ (World.drew _))
        generalize y2.drew = D0 at *
        refine' join_at (fun tv w4 => Strs w4 tv (namesB p) ∧ Strs w4 (.slice za (namesB p).length zc) (namesB p) ∧ Strs w4 lv ((plainB p).getD []) ∧ Below w.heap.size w w4) _ ?use ?key
        case use =>
          intro K4
          refine wpAny_ready (rs := [0, 3]) (by kernel_rfl) (by simp) ?_
          refine AllReady.cons rfl (fun K hK => ?_) ?_
          · go_simp
            refine hK _ _ ?_
            clear hK K
            refine wpAny_ready (rs := [1, 3]) (by kernel_rfl) (by simp) ?_
            refine AllReady.cons rfl (fun K hK => ?_) ?_
            · go_simp
              go_wp2_with (go_at_call 16; refine (Put_any (absB p) (slashB p) (namesB p) _ _ sz3 (by omega) (by omega)).mono ?_; rintro e w3 ⟨rfl, b3⟩; have sz4 := sz3.below b3; have sl4 := sl3.below b3; have zx4 := zx3.next b3; have h3 := h2.trans (b3.mono h2.size); have q0 : w3.cell? ⟨y1.heap.size, 0, none⟩ = some (.bool (absB p)) := (zx4.cell 0).trans rfl; have q1 : w3.cell? ⟨y1.heap.size, 1, none⟩ = some (.slice za (namesB p).length zc) := (zx4.cell 1).trans rfl; have q2 : w3.cell? ⟨y1.heap.size, 2, none⟩ = some (.bool (slashB p)) := (zx4.cell 2).trans rfl)
              refine wpAny_ready (rs := [2, 3]) (by kernel_rfl) (by simp) ?_
              refine AllReady.cons rfl (fun K hK => ?_) ?_
              · go_simp
                go_wp2_with (go_at_call 11; refine (aw_read (putB (absB p) (namesB p) (slashB p)) (absB p) (slashB p) (namesB p) _ hTl.out hTr.out).mono ?_; rintro e w4 ⟨tv, rfl, st4, b4⟩; have sz5 := sz4.below b4; have sl5 := sl4.below b4; have zx5 := zx4.next b4; have h4 := h3.trans (b4.mono h3.size); have r0 : w4.cell? ⟨y1.heap.size, 0, none⟩ = some (.bool (absB p)) := (zx5.cell 0).trans rfl; have r1 : w4.cell? ⟨y1.heap.size, 1, none⟩ = some (.slice za (namesB p).length zc) := (zx5.cell 1).trans rfl; have r2 : w4.cell? ⟨y1.heap.size, 2, none⟩ = some (.bool (slashB p)) := (zx5.cell 2).trans rfl)
                refine wpAny_ready (rs := [3]) (by kernel_rfl) (by simp) ?_
                refine AllReady.cons rfl (fun K hK => ?_) ?_
                · go_simp
                  refine hK _ _ ?_
                  clear hK K
                  refine wpAny_listed (lst := #[true, true, true, true, false, false, false, false, false, false, false, false, false, false, false, false]) (by kernel_rfl) ?_
                  exact K4 _ _ ⟨st4, sz5, sl5, h4⟩
                exact AllReady.nil
              refine AllReady.cons rfl (fun K hK => ?_) ?_
              · go_simp
                refine hK _ _ ?_
                clear hK K
                refine wpAny_ready (rs := [2]) (by kernel_rfl) (by simp) ?_
                refine AllReady.cons rfl (fun K hK => ?_) ?_
                · go_simp
                  go_wp2_with (go_at_call 11; refine (aw_read (putB (absB p) (namesB p) (slashB p)) (absB p) (slashB p) (namesB p) _ hTl.out hTr.out).mono ?_; rintro e w4 ⟨tv, rfl, st4, b4⟩; have sz5 := sz4.below b4; have sl5 := sl4.below b4; have zx5 := zx4.next b4; have h4 := h3.trans (b4.mono h3.size); have r0 : w4.cell? ⟨y1.heap.size, 0, none⟩ = some (.bool (absB p)) := (zx5.cell 0).trans rfl; have r1 : w4.cell? ⟨y1.heap.size, 1, none⟩ = some (.slice za (namesB p).length zc) := (zx5.cell 1).trans rfl; have r2 : w4.cell? ⟨y1.heap.size, 2, none⟩ = some (.bool (slashB p)) := (zx5.cell 2).trans rfl)
                  refine wpAny_listed (lst := #[true, true, true, true, false, false, false, false, false, false, false, false, false, false, false, false]) (by kernel_rfl) ?_
                  exact K4 _ _ ⟨st4, sz5, sl5, h4⟩
                exact AllReady.nil
              exact AllReady.nil
            refine AllReady.cons rfl (fun K hK => ?_) ?_
            · go_simp
              refine hK _ _ ?_
              clear hK K
              refine wpAny_ready (rs := [1]) (by kernel_rfl) (by simp) ?_
              refine AllReady.cons rfl (fun K hK => ?_) ?_
              · go_simp
                go_wp2_with (go_at_call 16; refine (Put_any (absB p) (slashB p) (namesB p) _ _ sz3 (by omega) (by omega)).mono ?_; rintro e w3 ⟨rfl, b3⟩; have sz4 := sz3.below b3; have sl4 := sl3.below b3; have zx4 := zx3.next b3; have h3 := h2.trans (b3.mono h2.size); have q0 : w3.cell? ⟨y1.heap.size, 0, none⟩ = some (.bool (absB p)) := (zx4.cell 0).trans rfl; have q1 : w3.cell? ⟨y1.heap.size, 1, none⟩ = some (.slice za (namesB p).length zc) := (zx4.cell 1).trans rfl; have q2 : w3.cell? ⟨y1.heap.size, 2, none⟩ = some (.bool (slashB p)) := (zx4.cell 2).trans rfl)
                refine wpAny_ready (rs := [2]) (by kernel_rfl) (by simp) ?_
                refine AllReady.cons rfl (fun K hK => ?_) ?_
                · go_simp
                  go_wp2_with (go_at_call 11; refine (aw_read (putB (absB p) (namesB p) (slashB p)) (absB p) (slashB p) (namesB p) _ hTl.out hTr.out).mono ?_; rintro e w4 ⟨tv, rfl, st4, b4⟩; have sz5 := sz4.below b4; have sl5 := sl4.below b4; have zx5 := zx4.next b4; have h4 := h3.trans (b4.mono h3.size); have r0 : w4.cell? ⟨y1.heap.size, 0, none⟩ = some (.bool (absB p)) := (zx5.cell 0).trans rfl; have r1 : w4.cell? ⟨y1.heap.size, 1, none⟩ = some (.slice za (namesB p).length zc) := (zx5.cell 1).trans rfl; have r2 : w4.cell? ⟨y1.heap.size, 2, none⟩ = some (.bool (slashB p)) := (zx5.cell 2).trans rfl)
                  refine wpAny_listed (lst := #[true, true, true, true, false, false, false, false, false, false, false, false, false, false, false, false]) (by kernel_rfl) ?_
                  exact K4 _ _ ⟨st4, sz5, sl5, h4⟩
                exact AllReady.nil
              exact AllReady.nil
            exact AllReady.nil
          refine AllReady.cons rfl (fun K hK => ?_) ?_
          · go_simp
            refine hK _ _ ?_
            clear hK K
            refine wpAny_ready (rs := [0]) (by kernel_rfl) (by simp) ?_
            refine AllReady.cons rfl (fun K hK => ?_) ?_
            · go_simp
              refine hK _ _ ?_
              clear hK K
              refine wpAny_ready (rs := [1]) (by kernel_rfl) (by simp) ?_
              refine AllReady.cons rfl (fun K hK => ?_) ?_
              · go_simp
                go_wp2_with (go_at_call 16; refine (Put_any (absB p) (slashB p) (namesB p) _ _ sz3 (by omega) (by omega)).mono ?_; rintro e w3 ⟨rfl, b3⟩; have sz4 := sz3.below b3; have sl4 := sl3.below b3; have zx4 := zx3.next b3; have h3 := h2.trans (b3.mono h2.size); have q0 : w3.cell? ⟨y1.heap.size, 0, none⟩ = some (.bool (absB p)) := (zx4.cell 0).trans rfl; have q1 : w3.cell? ⟨y1.heap.size, 1, none⟩ = some (.slice za (namesB p).length zc) := (zx4.cell 1).trans rfl; have q2 : w3.cell? ⟨y1.heap.size, 2, none⟩ = some (.bool (slashB p)) := (zx4.cell 2).trans rfl)
                refine wpAny_ready (rs := [2]) (by kernel_rfl) (by simp) ?_
                refine AllReady.cons rfl (fun K hK => ?_) ?_
                · go_simp
                  go_wp2_with (go_at_call 11; refine (aw_read (putB (absB p) (namesB p) (slashB p)) (absB p) (slashB p) (namesB p) _ hTl.out hTr.out).mono ?_; rintro e w4 ⟨tv, rfl, st4, b4⟩; have sz5 := sz4.below b4; have sl5 := sl4.below b4; have zx5 := zx4.next b4; have h4 := h3.trans (b4.mono h3.size); have r0 : w4.cell? ⟨y1.heap.size, 0, none⟩ = some (.bool (absB p)) := (zx5.cell 0).trans rfl; have r1 : w4.cell? ⟨y1.heap.size, 1, none⟩ = some (.slice za (namesB p).length zc) := (zx5.cell 1).trans rfl; have r2 : w4.cell? ⟨y1.heap.size, 2, none⟩ = some (.bool (slashB p)) := (zx5.cell 2).trans rfl)
                  refine wpAny_listed (lst := #[true, true, true, true, false, false, false, false, false, false, false, false, false, false, false, false]) (by kernel_rfl) ?_
                  exact K4 _ _ ⟨st4, sz5, sl5, h4⟩
                exact AllReady.nil
              exact AllReady.nil
            exact AllReady.nil
          exact AllReady.nil
        case key =>
          rintro tv w4 ⟨f1, f2, f3, f4⟩
          refine wpAny_ready (rs := [4]) (by kernel_rfl) (by simp) ?_
          refine AllReady.cons rfl (fun K hK => ?_) AllReady.nil
          go_simp
          go_wp2_with (go_at_call 10; refine (same_yes (absB p) (slashB p) (namesB p) _ _ _ f1 f2).mono ?_; rintro e w5 ⟨rfl, b5⟩; have f5 := f3.below b5; have h5 := f4.trans (b5.mono f4.size))
          clear f1 f2 f3 f4
          refine wpAny_ready (rs := [5]) (by kernel_rfl) (by simp) ?_
          refine AllReady.cons rfl (fun K hK => ?_) AllReady.nil
          go_simp
          refine hK _ _ ?_
          clear hK K
          cases hpp : plainB p with
          | none =>
            clear f5
            refine wpAny_ready (rs := [6]) (by kernel_rfl) (by simp) ?_
            refine AllReady.cons rfl (fun K hK => ?_) ?_
            · go_simp
              refine hK _ _ ?_
              clear hK K
              refine wpAny_ready (rs := [7]) (by kernel_rfl) (by simp) ?_
              refine AllReady.cons rfl (fun K hK => ?_) ?_
              · go_simp
                refine hK _ _ ?_
                clear hK K
                refine wpAny_ready (rs := [8]) (by kernel_rfl) (by simp) ?_
                refine AllReady.cons rfl (fun K hK => ?_) ?_
                · go_simp
                  refine hK _ _ ?_
                  clear hK K
                  refine wpAny_ready (rs := [9, 11]) (by kernel_rfl) (by simp) ?_
                  refine AllReady.cons rfl (fun K hK => ?_) ?_
                  · go_simp
                    refine hK _ _ ?_
                    clear hK K
                    refine wpAny_ready (rs := [10, 11]) (by kernel_rfl) (by simp) ?_
                    refine AllReady.cons rfl (fun K hK => ?_) ?_
                    · go_simp
                      refine hK _ _ ?_
                      clear hK K
                      refine wpAny_ready (rs := [11]) (by kernel_rfl) (by simp) ?_
                      refine AllReady.cons rfl (fun K hK => ?_) ?_
                      · go_simp
                        refine hK _ _ ?_
                        clear hK K
                        refine wpAny_ready (rs := [12]) (by kernel_rfl) (by simp) ?_
                        refine AllReady.cons rfl (fun K hK => ?_) ?_
                        · go_simp
                          refine hK _ _ ?_
                          clear hK K
                          refine wpAny_ready (rs := [13]) (by kernel_rfl) (by simp) ?_
                          refine AllReady.cons rfl (fun K hK => ?_) ?_
                          · go_simp
                            refine hK _ _ ?_
                            clear hK K
                            refine wpAny_ready (rs := [14]) (by kernel_rfl) (by simp) ?_
                            refine AllReady.cons rfl (fun K hK => ?_) ?_
                            · go_simp
                              refine hK _ _ ?_
                              clear hK K
                              refine wpAny_ready (rs := [15]) (by kernel_rfl) (by simp) ?_
                              refine AllReady.cons rfl (fun K hK => ?_) ?_
                              · go_simp
                                refine hK _ _ ?_
                                clear hK K
                                refine wpAny_done (by kernel_rfl) ?_ _
                                go_wp2
                                go_ret
                                exact ⟨rfl, h5⟩
                              exact AllReady.nil
                            exact AllReady.nil
                          exact AllReady.nil
                        exact AllReady.nil
                      exact AllReady.nil
                    refine AllReady.cons rfl (fun K hK => ?_) ?_
                    · go_simp
                      refine hK _ _ ?_
                      clear hK K
                      refine wpAny_ready (rs := [10]) (by kernel_rfl) (by simp) ?_
                      refine AllReady.cons rfl (fun K hK => ?_) ?_
                      · go_simp
                        refine hK _ _ ?_
                        clear hK K
                        refine wpAny_ready (rs := [12]) (by kernel_rfl) (by simp) ?_
                        refine AllReady.cons rfl (fun K hK => ?_) ?_
                        · go_simp
                          refine hK _ _ ?_
                          clear hK K
                          refine wpAny_ready (rs := [13]) (by kernel_rfl) (by simp) ?_
                          refine AllReady.cons rfl (fun K hK => ?_) ?_
                          · go_simp
                            refine hK _ _ ?_
                            clear hK K
                            refine wpAny_ready (rs := [14]) (by kernel_rfl) (by simp) ?_
                            refine AllReady.cons rfl (fun K hK => ?_) ?_
                            · go_simp
                              refine hK _ _ ?_
                              clear hK K
                              refine wpAny_ready (rs := [15]) (by kernel_rfl) (by simp) ?_
                              refine AllReady.cons rfl (fun K hK => ?_) ?_
                              · go_simp
                                refine hK _ _ ?_
                                clear hK K
                                refine wpAny_done (by kernel_rfl) ?_ _
                                go_wp2
                                go_ret
                                exact ⟨rfl, h5⟩
                              exact AllReady.nil
                            exact AllReady.nil
                          exact AllReady.nil
                        exact AllReady.nil
                      exact AllReady.nil
                    exact AllReady.nil
                  refine AllReady.cons rfl (fun K hK => ?_) ?_
                  · go_simp
                    refine hK _ _ ?_
                    clear hK K
                    refine wpAny_ready (rs := [9]) (by kernel_rfl) (by simp) ?_
                    refine AllReady.cons rfl (fun K hK => ?_) ?_
                    · go_simp
                      refine hK _ _ ?_
                      clear hK K
                      refine wpAny_ready (rs := [10]) (by kernel_rfl) (by simp) ?_
                      refine AllReady.cons rfl (fun K hK => ?_) ?_
                      · go_simp
                        refine hK _ _ ?_
                        clear hK K
                        refine wpAny_ready (rs := [12]) (by kernel_rfl) (by simp) ?_
                        refine AllReady.cons rfl (fun K hK => ?_) ?_
                        · go_simp
                          refine hK _ _ ?_
                          clear hK K
                          refine wpAny_ready (rs := [13]) (by kernel_rfl) (by simp) ?_
                          refine AllReady.cons rfl (fun K hK => ?_) ?_
                          · go_simp
                            refine hK _ _ ?_
                            clear hK K
                            refine wpAny_ready (rs := [14]) (by kernel_rfl) (by simp) ?_
                            refine AllReady.cons rfl (fun K hK => ?_) ?_
                            · go_simp
                              refine hK _ _ ?_
                              clear hK K
                              refine wpAny_ready (rs := [15]) (by kernel_rfl) (by simp) ?_
                              refine AllReady.cons rfl (fun K hK => ?_) ?_
                              · go_simp
                                refine hK _ _ ?_
                                clear hK K
                                refine wpAny_done (by kernel_rfl) ?_ _
                                go_wp2
                                go_ret
                                exact ⟨rfl, h5⟩
                              exact AllReady.nil
                            exact AllReady.nil
                          exact AllReady.nil
                        exact AllReady.nil
                      exact AllReady.nil
                    exact AllReady.nil
                  exact AllReady.nil
                exact AllReady.nil
              exact AllReady.nil
            exact AllReady.nil
          | some ms =>
            have HJ := Lib.hid (plainB_yes hpp).1
            have hms : Hid (ms.length ≤ 1000000 ∧ (interB ms).length ≤ 1000000) := by
              have e := (plainB_yes hpp).2.2
              (show _ ∧ _); rw [← e]; omega
            rw [hpp] at f5
            have f5 : Strs w5 lv ms := f5
            clear hpp
            refine wpAny_ready (rs := [6]) (by kernel_rfl) (by simp) ?_
            refine AllReady.cons rfl (fun K hK => ?_) ?_
            · go_simp
              refine hK _ _ ?_
              clear hK K
              refine wpAny_ready (rs := [7]) (by kernel_rfl) (by simp) ?_
              refine AllReady.cons rfl (fun K hK => ?_) ?_
              · go_simp
                refine hK _ _ ?_
                clear hK K
                refine wpAny_ready (rs := [8]) (by kernel_rfl) (by simp) ?_
                refine AllReady.cons rfl (fun K hK => ?_) ?_
                · go_simp
                  refine hK _ _ ?_
                  clear hK K
                  refine wpAny_ready (rs := [9, 11]) (by kernel_rfl) (by simp) ?_
                  refine AllReady.cons rfl (fun K hK => ?_) ?_
                  · go_simp
                    refine hK _ _ ?_
                    clear hK K
                    refine wpAny_ready (rs := [10, 11]) (by kernel_rfl) (by simp) ?_
                    refine AllReady.cons rfl (fun K hK => ?_) ?_
                    · go_simp
                      go_wp2_with (go_at_call 18; refine (Join_eq ms p _ _ f5 hms.out HJ.out).mono ?_; rintro e w6 ⟨rfl, b6⟩; have h6 := h5.trans (b6.mono h5.size))
                      refine wpAny_ready (rs := [11]) (by kernel_rfl) (by simp) ?_
                      refine AllReady.cons rfl (fun K hK => ?_) ?_
                      · go_simp
                        refine hK _ _ ?_
                        clear hK K
                        refine wpAny_ready (rs := [12]) (by kernel_rfl) (by simp) ?_
                        refine AllReady.cons rfl (fun K hK => ?_) ?_
                        · go_simp
                          refine hK _ _ ?_
                          clear hK K
                          refine wpAny_ready (rs := [13]) (by kernel_rfl) (by simp) ?_
                          refine AllReady.cons rfl (fun K hK => ?_) ?_
                          · go_simp
                            refine hK _ _ ?_
                            clear hK K
                            refine wpAny_ready (rs := [14]) (by kernel_rfl) (by simp) ?_
                            refine AllReady.cons rfl (fun K hK => ?_) ?_
                            · go_simp
                              refine hK _ _ ?_
                              clear hK K
                              refine wpAny_ready (rs := [15]) (by kernel_rfl) (by simp) ?_
                              refine AllReady.cons rfl (fun K hK => ?_) ?_
                              · go_simp
                                refine hK _ _ ?_
                                clear hK K
                                refine wpAny_done (by kernel_rfl) ?_ _
                                go_wp2
                                go_ret
                                exact ⟨rfl, h6⟩
                              exact AllReady.nil
                            exact AllReady.nil
                          exact AllReady.nil
                        exact AllReady.nil
                      exact AllReady.nil
                    refine AllReady.cons rfl (fun K hK => ?_) ?_
                    · go_simp
                      refine hK _ _ ?_
                      clear hK K
                      refine wpAny_ready (rs := [10]) (by kernel_rfl) (by simp) ?_
                      refine AllReady.cons rfl (fun K hK => ?_) ?_
                      · go_simp
                        go_wp2_with (go_at_call 18; refine (Join_eq ms p _ _ f5 hms.out HJ.out).mono ?_; rintro e w6 ⟨rfl, b6⟩; have h6 := h5.trans (b6.mono h5.size))
                        refine wpAny_ready (rs := [12]) (by kernel_rfl) (by simp) ?_
                        refine AllReady.cons rfl (fun K hK => ?_) ?_
                        · go_simp
                          refine hK _ _ ?_
                          clear hK K
                          refine wpAny_ready (rs := [13]) (by kernel_rfl) (by simp) ?_
                          refine AllReady.cons rfl (fun K hK => ?_) ?_
                          · go_simp
                            refine hK _ _ ?_
                            clear hK K
                            refine wpAny_ready (rs := [14]) (by kernel_rfl) (by simp) ?_
                            refine AllReady.cons rfl (fun K hK => ?_) ?_
                            · go_simp
                              refine hK _ _ ?_
                              clear hK K
                              refine wpAny_ready (rs := [15]) (by kernel_rfl) (by simp) ?_
                              refine AllReady.cons rfl (fun K hK => ?_) ?_
                              · go_simp
                                refine hK _ _ ?_
                                clear hK K
                                refine wpAny_done (by kernel_rfl) ?_ _
                                go_wp2
                                go_ret
                                exact ⟨rfl, h6⟩
                              exact AllReady.nil
                            exact AllReady.nil
                          exact AllReady.nil
                        exact AllReady.nil
                      exact AllReady.nil
                    exact AllReady.nil
                  refine AllReady.cons rfl (fun K hK => ?_) ?_
                  · go_simp
                    refine hK _ _ ?_
                    clear hK K
                    refine wpAny_ready (rs := [9]) (by kernel_rfl) (by simp) ?_
                    refine AllReady.cons rfl (fun K hK => ?_) ?_
                    · go_simp
                      refine hK _ _ ?_
                      clear hK K
                      refine wpAny_ready (rs := [10]) (by kernel_rfl) (by simp) ?_
                      refine AllReady.cons rfl (fun K hK => ?_) ?_
                      · go_simp
                        go_wp2_with (go_at_call 18; refine (Join_eq ms p _ _ f5 hms.out HJ.out).mono ?_; rintro e w6 ⟨rfl, b6⟩; have h6 := h5.trans (b6.mono h5.size))
                        refine wpAny_ready (rs := [12]) (by kernel_rfl) (by simp) ?_
                        refine AllReady.cons rfl (fun K hK => ?_) ?_
                        · go_simp
                          refine hK _ _ ?_
                          clear hK K
                          refine wpAny_ready (rs := [13]) (by kernel_rfl) (by simp) ?_
                          refine AllReady.cons rfl (fun K hK => ?_) ?_
                          · go_simp
                            refine hK _ _ ?_
                            clear hK K
                            refine wpAny_ready (rs := [14]) (by kernel_rfl) (by simp) ?_
                            refine AllReady.cons rfl (fun K hK => ?_) ?_
                            · go_simp
                              refine hK _ _ ?_
                              clear hK K
                              refine wpAny_ready (rs := [15]) (by kernel_rfl) (by simp) ?_
                              refine AllReady.cons rfl (fun K hK => ?_) ?_
                              · go_simp
                                refine hK _ _ ?_
                                clear hK K
                                refine wpAny_done (by kernel_rfl) ?_ _
                                go_wp2
                                go_ret
                                exact ⟨rfl, h6⟩
                              exact AllReady.nil
                            exact AllReady.nil
                          exact AllReady.nil
                        exact AllReady.nil
                      exact AllReady.nil
                    exact AllReady.nil
                  exact AllReady.nil
                exact AllReady.nil
              exact AllReady.nil
            exact AllReady.nil


namespace LPathBack
set_option maxRecDepth 100000 in
theorem lifted (os : Os) (started : os.Started) (H : Type) (enc : TypeId × Value → H) :
    ReturnsInHanded {} Try.checked os 7 .any (Rows.pathBackSpec.pre6 enc Try.prog Try.f7 Rows.pathBackRow.domain false) (Rows.pathBackSpec.post enc Try.prog Try.f7 false true false false) := by
  refine returnsInHanded_of_change (C := Try.checked) (by kernel_rfl) started (by kernel_rfl) Try.func7
    (ChangeSpec.witness6 (enc := enc) (C := Try.checked) false ⟨#[], #[.agg #[.bool false, .slice none 0 0, .bool false], .string ByteArray.empty], []⟩ 8 (by kernel_rfl) (by kernel_rfl) (by kernel_rfl) (by kernel_rfl)) ?_
  intro W base args ds gs before hval0 hW hcnd _
  have hval : ∀ (j : Nat) t v, Try.f7.params[j]? = some t → args[j]? = some v → Value.okWide Try.prog W .any base t v := hval0
  have hW' := hW
  obtain ⟨p, q, hA0, hV, rfl, hfz, hnd⟩ := hW
  have hA : DataW.TrodAll enc Try.prog W 0 (fun _ => true) true Try.f7.params.toList args.toList ds p := hA0
  rw [Try.params7] at hA hval
  obtain ⟨v0, vs0, d0, ds0, p0, q0, hargs, rfl, rfl, k0, r0⟩ := trodAll_cons hA
  obtain ⟨v1, vs1, d1, ds1, p1, q1, rfl, rfl, rfl, k1, r1⟩ := trodAll_cons r0
  obtain ⟨rfl, rfl, rfl⟩ := trodAll_nil r1
  obtain rfl : args = #[v0, v1] := by cases args; simp_all
  obtain ⟨rfl, rfl⟩ := trodVars_none hV
  have ok0 := hval 0 26 v0 rfl rfl
  have ok1 := hval 1 9 v1 rfl rfl
  have lt0 : ∀ x ∈ p0, x.block < W.heap.size := by obtain ⟨m, hm⟩ := k0; exact DataW.trod_lt m _ _ _ hm
  have lt1 : ∀ x ∈ p1, x.block < W.heap.size := by obtain ⟨m, hm⟩ := k1; exact DataW.trod_lt m _ _ _ hm
  have C : Calls Try.prog 7 #[v0, v1] W fun e w' => e = .returned (.bool true) ∧ Below W.heap.size W w' := by
    clear hA0 hval0 hval hW' hcnd hV hfz hnd
    obtain ⟨a, x, s, l, rfl, hl⟩ := path_of_trod ok0 k0
    obtain ⟨t, rfl, rfl, rfl, ht⟩ := open_string Try.underlying9 ok1 k1
    rw [str_eta t]
    have ht2 := str_len ht
    unfold maxLen at ht2
    exact lawBack a s l x _ W hl ht2
  refine C.mono fun e W' ⟨he, bel⟩ => ?_
  subst he
  exact ⟨_, rfl, _, _, _, [], _, [], hW', trodAll_mk1 (shut_bool Try.underlying4 _), (trodAll_cons_mk (Below.trod laidOut (by kernel_rfl) (of_decide_eq_true (by kernel_rfl)) k0 bel lt0) (trodAll_cons_mk (Below.trod laidOut (by kernel_rfl) (of_decide_eq_true (by kernel_rfl)) k1 bel lt1) trodAll_mk0)), rfl, bel.frame _, fun h => by cases h⟩
theorem proved : Rows.PathBackSaid :=
  OpenClaim.holds_of_wide 7 Try.f7 rfl rfl rfl rfl rfl rfl rfl ⟨rfl, rfl, rfl, rfl, rfl⟩ rfl rfl rfl rfl rfl (by kernel_rfl) Try.func7 (by kernel_rfl)
    (of_decide_eq_true (by kernel_rfl)) (by unfold Func.isWrapper; first | (rw [if_pos (by decide +kernel)]; kernel_rfl) | (rw [if_neg (by decide +kernel)]; exact ⟨rfl, rfl⟩))
    (fun os started H enc _ => lifted os started H enc)
#print axioms proved
end LPathBack

end Go.Proofs.Ytgonjgbdggpedaa
