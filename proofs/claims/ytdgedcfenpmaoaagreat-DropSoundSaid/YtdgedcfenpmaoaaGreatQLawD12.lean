import Derived.Test.YtdgedcfenpmaoaaGreatQMLawBase12
import Derived.Test.YtdgedcfenpmaoaaGreatQMWalkH04
import Derived.Test.YtdgedcfenpmaoaaGreatQWalkA08
import Derived.Deep.Cut
import Derived.Deep.CutRange
import Derived.Deep.RegionHeld3
set_option linter.unusedVariables false
set_option linter.unusedSimpArgs false
/- For every sound file system, and a base and paths that are short: whatever is linked and taken away, the file system stays sound, with one entry more or less; what is refused changes nothing (no condition). -/
set_option linter.unusedVariables false
set_option linter.unusedSimpArgs false
namespace Go.Proofs.YtdgedcfenpmaoaaGreat
open Go.ChangeShapes Go.WideShapes Go.ChangeAt Go.RowKit
open Go.ChangeMaps (open_string shut_string)
set_option linter.unusedVariables false

set_option maxHeartbeats 8000000 in
set_option maxRecDepth 100000 in
theorem lawSound12 (mi mb nx : Int) (l : List Nd) (base p q : List UInt8) (kd : Nat) (hkd : kd < 256) (v : Value) (w : World) (hv : Nds w v l) :
    Calls Tryz.prog 6 #[.agg (fsC mi mb nx v), .string ⟨base.toArray⟩, .string ⟨p.toArray⟩, .string ⟨q.toArray⟩, .int .u8 (kd : Int)] w fun e w' => e = .returned (.bool true) ∧ Below w.heap.size w w' := by
  obtain ⟨a, ca, rfl⟩ := nds_slice hv
  have bF := Blk.new w 24 (fsC mi mb nx (.slice a l.length ca))
  have hB := alloc_below w (.cells (fsC mi mb nx (.slice a l.length ca)) 24)
  have nV := hv.below hB
  have HV := Lib.hid hv
  clear hv
  cases hf : fit12B mi mb nx l base p q
  · go_enter Tryz.func6, Tryz.ntmps6
    go_wp2_with fail; refine (awake12 _).mono ?_; rintro e w1 ⟨rfl, b⟩
    (replace bF := bF.next b; replace nV := nV.below b; replace hB := hB.trans (b.mono hB.size))
    obtain ⟨⟨p0, p1, p2, p3⟩, _⟩ := bF.four
    go_wp2_with fail; refine (fits12_any mi mb nx l base p q _ _ nV).mono ?_; rintro e w2 ⟨rfl, b2⟩
    (replace bF := bF.next b2; replace nV := nV.below b2; replace hB := hB.trans (b2.mono hB.size))
    rw [hf]
    go_wp2_with fail; refine (awake12 _).mono ?_; rintro e w3 ⟨rfl, b3⟩
    go_wp2
    go_ret
    exact ⟨rfl, hB.trans (b3.mono hB.size)⟩
  obtain ⟨hok, hsh, hsh2⟩ := fit12_parts hf
  obtain ⟨hbl, hpl⟩ := short12 hsh
  have hql := (short12 hsh2).2
  have hfew := (few_each (ok_parts hok).1).1
  have hsl := slim_few (ok_parts hok).1
  have hLk := fun W hW => Link_any mi mb nx l base p q (.slice a l.length ca) W hW (ok_s hok) (by omega) (by omega) (by omega)
  have hUn := fun W hW => Unlink_any mi mb nx l base p (.slice a l.length ca) W hW (ok_s hok) (by omega) (by omega)
  have hRm := fun W hW => Rmdir_any mi mb nx l base p (.slice a l.length ca) W hW (ok_s hok) (by omega) (by omega)
  have HTL := Lib.hid (fun ev => link_cut (ev := ev) (base := base) (src := p) (dst := q) hok)
  have HTU := Lib.hid (fun ev => unlink_cut (ev := ev) (base := base) (p := p) hok)
  have HTR := Lib.hid (fun ev => rmdir_cut (ev := ev) (base := base) (p := p) hok)
  have hLl : (listN l).length ≤ 2000 := by have := list_slim (ok_sound hok) hsl; omega
  have HRL := Lib.hid (fun W hW => refList_any mi mb nx l (.slice a l.length ca) W hW (fun x hx => (hsl.each x hx).2.2) (by omega) (by omega))
  have HLk := Lib.hid hLk
  have HUn := Lib.hid hUn
  have HRm := Lib.hid hRm
  clear hLk hUn hRm
  go_enter Tryz.func6, Tryz.ntmps6
  go_wp2_with fail; refine (awake12 _).mono ?_; rintro e w1 ⟨rfl, b⟩
  (replace bF := bF.next b; replace nV := nV.below b; replace hB := hB.trans (b.mono hB.size))
  obtain ⟨⟨p0, p1, p2, p3⟩, _⟩ := bF.four
  go_wp2_with fail; refine (fits12_any mi mb nx l base p q _ _ nV).mono ?_; rintro e w2 ⟨rfl, b2⟩
  (replace bF := bF.next b2; replace nV := nV.below b2; replace hB := hB.trans (b2.mono hB.size))
  rw [hf]
  clear b b2 p0 p1 p2 p3
  obtain ⟨⟨p0, p1, p2, p3⟩, _⟩ := bF.four
  go_upto_if 28 with (fail)
  clear p0 p1 p2 p3
  have bG := Blk.new w2 24 (fsC mi mb nx (.slice a l.length ca))
  have b3 := alloc_below w2 (.cells (fsC mi mb nx (.slice a l.length ca)) 24)
  have hlt2 := bF.lt
  have hlt3 := bG.lt
  (replace bF := bF.next b3; replace nV := nV.below b3; replace hB := hB.trans (b3.mono hB.size))
  clear b3
  generalize w2.alloc (.cells (fsC mi mb nx (.slice a l.length ca)) 24) = w3 at *
  generalize w2.heap.size = BG at *
  obtain ⟨⟨p0, p1, p2, p3⟩, _⟩ := bF.four
  go_cut [12, 13] from 26 to 53 (fun s12 s13 wc => ∃ (m q : Int) (y : Value) (L : List Nd), s12 = .int .i64 q ∧ s13 = .int .i64 m ∧ Aside (Blk wc w.heap.size 24 (fsC mi mb nx (.slice a l.length ca)) ∧ Blk wc BG 24 (fsC mi mb nx y) ∧ Nds wc y L ∧ Nds wc (.slice a l.length ca) l ∧ CutT mi mb nx l m (L, q) ∧ (m = 1 ∨ m = -1) ∧ Below w.heap.size w wc))
  case first =>
    rcases (show kd % 3 = 0 ∨ kd % 3 = 1 ∨ kd % 3 = 2 by omega) with h3 | h3 | h3
    · have hk3 : (kd : Int) % 3 = 0 := by omega
      have hk4 : (kd : Int).tmod 3 = 0 := by rw [Int.tmod_eq_emod_of_nonneg (by omega)]; exact hk3
      go_wp2_with fail
      refine (HLk.out _ nV).mono ?_
      rintro e w4 ⟨y, ev, rfl, hM, b4⟩
      have hT := HTL.out ev
      have n4 := hM.now nV b4
      generalize linkF l base p q ev = Z at *
      obtain ⟨L, q0⟩ := Z
      dsimp only at n4 hM
      obtain ⟨ay, cy, rfl⟩ := nds_slice n4
      have bG4 := bG.next b4
      have bF4 := bF.next b4
      have hB4 := hB.trans (b4.mono hB.size)
      clear p0 p1 p2 p3
      obtain ⟨⟨r0, r1, r2, r3⟩, e0, e1, e2, e3⟩ := bG4.four
      obtain ⟨W', hW', hb4, hg4⟩ := bG4.put4 (.int .i64 mi) (.int .i64 mb) (.int .i64 nx) (.slice ay L.length cy)
      have hbl := below_grown hB4 hg4 (Nat.le_refl _) (by omega)
      have hNF := HV.out.below hbl
      have hNL := hM W' (Kept.grown hg4 hlt3) hNF
      have hFk := bF4.kept hg4 (by simp; omega)
      clear hM n4 nV
      go_wp2_with fail
      go_meet
      exact ⟨1, q0, _, L, rfl, rfl, hFk, hb4, hNL, hNF, hT, .inl rfl, hbl⟩
    · have hk3 : (kd : Int) % 3 = 1 := by omega
      have hk4 : (kd : Int).tmod 3 = 1 := by rw [Int.tmod_eq_emod_of_nonneg (by omega)]; exact hk3
      go_wp2_with fail
      refine (HUn.out _ nV).mono ?_
      rintro e w4 ⟨y, ev, rfl, hM, b4⟩
      have hT := HTU.out ev
      have n4 := hM.now nV b4
      generalize unlinkF l base p ev = Z at *
      obtain ⟨L, q0⟩ := Z
      dsimp only at n4 hM
      obtain ⟨ay, cy, rfl⟩ := nds_slice n4
      have bG4 := bG.next b4
      have bF4 := bF.next b4
      have hB4 := hB.trans (b4.mono hB.size)
      clear p0 p1 p2 p3
      obtain ⟨⟨r0, r1, r2, r3⟩, e0, e1, e2, e3⟩ := bG4.four
      obtain ⟨W', hW', hb4, hg4⟩ := bG4.put4 (.int .i64 mi) (.int .i64 mb) (.int .i64 nx) (.slice ay L.length cy)
      have hbl := below_grown hB4 hg4 (Nat.le_refl _) (by omega)
      have hNF := HV.out.below hbl
      have hNL := hM W' (Kept.grown hg4 hlt3) hNF
      have hFk := bF4.kept hg4 (by simp; omega)
      clear hM n4 nV
      go_wp2_with fail
      go_meet
      exact ⟨(-1), q0, _, L, rfl, rfl, hFk, hb4, hNL, hNF, hT, .inr rfl, hbl⟩
    · have hk3 : (kd : Int) % 3 = 2 := by omega
      have hk4 : (kd : Int).tmod 3 = 2 := by rw [Int.tmod_eq_emod_of_nonneg (by omega)]; exact hk3
      go_wp2_with fail
      refine (HRm.out _ nV).mono ?_
      rintro e w4 ⟨y, ev, rfl, hM, b4⟩
      have hT := HTR.out ev
      have n4 := hM.now nV b4
      generalize rmdirF l base p ev = Z at *
      obtain ⟨L, q0⟩ := Z
      dsimp only at n4 hM
      obtain ⟨ay, cy, rfl⟩ := nds_slice n4
      have bG4 := bG.next b4
      have bF4 := bF.next b4
      have hB4 := hB.trans (b4.mono hB.size)
      clear p0 p1 p2 p3
      obtain ⟨⟨r0, r1, r2, r3⟩, e0, e1, e2, e3⟩ := bG4.four
      obtain ⟨W', hW', hb4, hg4⟩ := bG4.put4 (.int .i64 mi) (.int .i64 mb) (.int .i64 nx) (.slice ay L.length cy)
      have hbl := below_grown hB4 hg4 (Nat.le_refl _) (by omega)
      have hNF := HV.out.below hbl
      have hNL := hM W' (Kept.grown hg4 hlt3) hNF
      have hFk := bF4.kept hg4 (by simp; omega)
      clear hM n4 nV
      go_wp2_with fail
      go_meet
      exact ⟨(-1), q0, _, L, rfl, rfl, hFk, hb4, hNL, hNF, hT, .inr rfl, hbl⟩
  case rest =>
    obtain ⟨m, qe, y, L, rfl, rfl, HQ⟩ := hcut
    obtain ⟨bF4, bG4, nG, nF, hT, hm, hB4⟩ := HQ.out
    clear HQ bF bG nV hB p0 p1 p2 p3 HTL HTU HTR HLk HUn HRm
    obtain ⟨ay, cy, rfl⟩ := nds_slice nG
    rename World => w4
    by_cases hq : qe = 0
    · subst hq
      obtain ⟨g1, g2, g3⟩ := hT.good rfl
      dsimp only at g1 g2 g3
      have hCk := fun W hW => refCheck_any mi mb nx L (.slice ay L.length cy) W hW (by have := g2.len; omega) (fun x hx => ⟨fun e he => Nat.le_trans ((g2.each x hx).2.2 e he) (by decide), Nat.le_trans (g2.each x hx).2.1 (by decide)⟩) (by have := g2.pairs; omega) (by have := g2.bytes; omega)
      rw [sound_check g1] at hCk
      have hLg : (listN L).length ≤ 2001 := by omega
      have hLG := fun W hW => refList_any mi mb nx L (.slice ay L.length cy) W hW (fun x hx => (g2.each x hx).2.2) (by have := g2.len; omega) (by omega)
      have hLF := HRL.out
      have hll : ((listN L).length : Int) = ((listN l).length : Int) + m := g3
      generalize listN L = LG at *
      generalize listN l = LF at *
      have hll2 : ((LG.length : Int) == (LF.length : Int) + m) = true := by simpa using hll
      have hwr : IntKind.i64.wrap ((LF.length : Int) + m) = (LF.length : Int) + m := by rw [IntKind.wrap_i64]; omega
      have HLL := Lib.hid hll
      have HW := Lib.hid hwr
      have HL2 := Lib.hid hll2
      clear hwr hll2
      have hdr : Below w4.heap.size w4 w4.drew := (Below.refl _ _).drew
      have hq := hdr
      have hN : ∀ W, Below w4.heap.size w4 W → Nds W (.slice ay L.length cy) L ∧ Nds W (.slice a l.length ca) l := fun W hW => ⟨nG.below hW, nF.below hW⟩
      have HMK : ∀ W, Below w4.heap.size w4 W → (W.cell? ⟨BG, 0, none⟩ = some (.int .i64 mi) ∧ W.cell? ⟨BG, 1, none⟩ = some (.int .i64 mb) ∧ W.cell? ⟨BG, 2, none⟩ = some (.int .i64 nx) ∧ W.cell? ⟨BG, 3, none⟩ = some (.slice ay L.length cy) ∧ W.cell? ⟨w.heap.size, 0, none⟩ = some (.int .i64 mi) ∧ W.cell? ⟨w.heap.size, 1, none⟩ = some (.int .i64 mb) ∧ W.cell? ⟨w.heap.size, 2, none⟩ = some (.int .i64 nx) ∧ W.cell? ⟨w.heap.size, 3, none⟩ = some (.slice a l.length ca)) := by
        intro W h
        obtain ⟨⟨x0, x1, x2, x3⟩, _⟩ := (bG4.next h).four
        obtain ⟨⟨y0, y1, y2, y3⟩, _⟩ := (bF4.next h).four
        exact ⟨x0, x1, x2, x3, y0, y1, y2, y3⟩
      clear hT g1 g2 g3 hll hLl hLg
      go_upto_region 14 with fail
      go_region_held3 (fun W => W.cell? ⟨BG, 0, none⟩ = some (.int .i64 mi) ∧ W.cell? ⟨BG, 1, none⟩ = some (.int .i64 mb) ∧ W.cell? ⟨BG, 2, none⟩ = some (.int .i64 nx) ∧ W.cell? ⟨BG, 3, none⟩ = some (.slice ay L.length cy) ∧ W.cell? ⟨w.heap.size, 0, none⟩ = some (.int .i64 mi) ∧ W.cell? ⟨w.heap.size, 1, none⟩ = some (.int .i64 mb) ∧ W.cell? ⟨w.heap.size, 2, none⟩ = some (.int .i64 nx) ∧ W.cell? ⟨w.heap.size, 3, none⟩ = some (.slice a l.length ca))
        (first | with_reducible exact HMK _ hq)
        (first
          | (go_at_call 25; with_reducible refine (hCk _ (hN _ hq).1).mono ?_; rintro e w6 ⟨rfl, b6⟩; have hq := hq.trans (b6.mono hq.size))
          | (go_at_call 26; with_reducible refine (hLG _ (hN _ hq).1).mono ?_; rintro e w6 ⟨vl, rfl, hown, b6⟩; obtain ⟨al, cl, rfl⟩ := own_slice hown; have hq := hq.trans (b6.mono hq.size); clear hown)
          | (go_at_call 26; with_reducible refine (hLF _ (hN _ hq).2).mono ?_; rintro e w6 ⟨vl, rfl, hown, b6⟩; obtain ⟨al, cl, rfl⟩ := own_slice hown; have hq := hq.trans (b6.mono hq.size); clear hown))
      all_goals (go_wp2; go_ret; exact ⟨ret_bool (by rw [HW.out]; exact HL2.out), hB4.trans (hq.mono hB4.size)⟩)
    · have hbad := hT.bad hq
      dsimp only at hbad
      subst hbad
      have hq2 : (qe != 0) = true := by simpa using hq
      have hSm := refTab_any mi mb nx mi mb nx L L _ _ _ nG nF
      rw [tab_same (onesB_refl L)] at hSm
      obtain ⟨⟨p0, p1, p2, p3⟩, _⟩ := bF4.four
      obtain ⟨⟨r0, r1, r2, r3⟩, _⟩ := bG4.four
      clear hT
      go_wp2_with fail
      refine hSm.mono ?_
      rintro e w5 ⟨rfl, b5⟩
      go_wp2
      go_ret
      exact ⟨rfl, hB4.trans (b5.mono hB4.size)⟩

namespace LDropSound
set_option maxRecDepth 100000 in
theorem lifted (os : Os) (started : os.Started) (H : Type) (enc : TypeId × Value → H) :
    ReturnsInHanded {} Tryz.checked os 6 .any (Rows.dropSoundSpec.pre6 enc Tryz.prog Tryz.f6 Rows.dropSoundRow.domain false) (Rows.dropSoundSpec.post enc Tryz.prog Tryz.f6 false true false false) := by
  refine returnsInHanded_of_change (C := Tryz.checked) (by kernel_rfl) started (by kernel_rfl) Tryz.func6
    (ChangeSpec.witness6 (enc := enc) (C := Tryz.checked) false ⟨#[], #[.agg #[.int .i64 0, .int .i64 0, .int .i64 0, .slice none 0 0], .string ByteArray.empty, .string ByteArray.empty, .string ByteArray.empty, .int .u8 0], []⟩ 8 (by kernel_rfl) (by kernel_rfl) (by kernel_rfl) (by kernel_rfl)) ?_
  intro W base args ds gs before hval0 hW hcnd _
  have hval : ∀ (j : Nat) t v, Tryz.f6.params[j]? = some t → args[j]? = some v → Value.okWide Tryz.prog W .any base t v := hval0
  have hW' := hW
  obtain ⟨p, q, hA0, hV, rfl, hfz, hnd⟩ := hW
  have hA : DataW.TrodAll enc Tryz.prog W 0 (fun _ => true) true Tryz.f6.params.toList args.toList ds p := hA0
  rw [Tryz.params6] at hA hval
  obtain ⟨v0, vs0, d0, ds0, p0, q0, hargs, rfl, rfl, k0, r0⟩ := trodAll_cons hA
  obtain ⟨v1, vs1, d1, ds1, p1, q1, rfl, rfl, rfl, k1, r1⟩ := trodAll_cons r0
  obtain ⟨v2, vs2, d2, ds2, p2, q2, rfl, rfl, rfl, k2, r2⟩ := trodAll_cons r1
  obtain ⟨v3, vs3, d3, ds3, p3, q3, rfl, rfl, rfl, k3, r3⟩ := trodAll_cons r2
  obtain ⟨v4, vs4, d4, ds4, p4, q4, rfl, rfl, rfl, k4, r4⟩ := trodAll_cons r3
  obtain ⟨rfl, rfl, rfl⟩ := trodAll_nil r4
  obtain rfl : args = #[v0, v1, v2, v3, v4] := by cases args; simp_all
  obtain ⟨rfl, rfl⟩ := trodVars_none hV
  have ok0 := hval 0 24 v0 rfl rfl
  have ok1 := hval 1 9 v1 rfl rfl
  have ok2 := hval 2 9 v2 rfl rfl
  have ok3 := hval 3 9 v3 rfl rfl
  have ok4 := hval 4 5 v4 rfl rfl
  have lt0 : ∀ x ∈ p0, x.block < W.heap.size := by obtain ⟨m, hm⟩ := k0; exact DataW.trod_lt m _ _ _ hm
  have lt1 : ∀ x ∈ p1, x.block < W.heap.size := by obtain ⟨m, hm⟩ := k1; exact DataW.trod_lt m _ _ _ hm
  have lt2 : ∀ x ∈ p2, x.block < W.heap.size := by obtain ⟨m, hm⟩ := k2; exact DataW.trod_lt m _ _ _ hm
  have lt3 : ∀ x ∈ p3, x.block < W.heap.size := by obtain ⟨m, hm⟩ := k3; exact DataW.trod_lt m _ _ _ hm
  have lt4 : ∀ x ∈ p4, x.block < W.heap.size := by obtain ⟨m, hm⟩ := k4; exact DataW.trod_lt m _ _ _ hm
  have C : Calls Tryz.prog 6 #[v0, v1, v2, v3, v4] W fun e w' => e = .returned (.bool true) ∧ Below W.heap.size W w' := by
    clear hA0 hval0 hval hW' hcnd hV hfz hnd
    obtain ⟨mi, mb, nx, x, l, rfl, hx⟩ := fs_of_trod k0 ok0
    obtain ⟨s1, rfl, rfl, rfl, hs1⟩ := open_string Tryz.underlying9 ok1 k1
    obtain ⟨s2, rfl, rfl, rfl, hs2⟩ := open_string Tryz.underlying9 ok2 k2
    obtain ⟨s3, rfl, rfl, rfl, hs3⟩ := open_string Tryz.underlying9 ok3 k3
    obtain ⟨t, rfl, rfl, rfl, ht⟩ := open_int Tryz.underlying5 ok4 k4
    rw [str_eta s1, str_eta s2, str_eta s3]
    have hb := bounds_u8 ht
    obtain ⟨n, rfl⟩ := Int.eq_ofNat_of_zero_le hb.1
    exact lawSound12 mi mb nx l _ _ _ n (by omega) x W hx
  refine C.mono fun e W' ⟨he, bel⟩ => ?_
  subst he
  exact ⟨_, rfl, _, _, _, [], _, [], hW', trodAll_mk1 (shut_bool Tryz.underlying4 _), (trodAll_cons_mk (Below.trod laidOut (by kernel_rfl) (of_decide_eq_true (by kernel_rfl)) k0 bel lt0) (trodAll_cons_mk (Below.trod laidOut (by kernel_rfl) (of_decide_eq_true (by kernel_rfl)) k1 bel lt1) (trodAll_cons_mk (Below.trod laidOut (by kernel_rfl) (of_decide_eq_true (by kernel_rfl)) k2 bel lt2) (trodAll_cons_mk (Below.trod laidOut (by kernel_rfl) (of_decide_eq_true (by kernel_rfl)) k3 bel lt3) (trodAll_cons_mk (Below.trod laidOut (by kernel_rfl) (of_decide_eq_true (by kernel_rfl)) k4 bel lt4) trodAll_mk0))))), rfl, bel.frame _, fun h => by cases h⟩
theorem proved : Rows.DropSoundSaid :=
  OpenClaim.holds_of_wide 6 Tryz.f6 rfl rfl rfl rfl rfl rfl rfl ⟨rfl, rfl, rfl, rfl, rfl⟩ rfl rfl rfl rfl rfl (by kernel_rfl) Tryz.func6 (by kernel_rfl)
    (of_decide_eq_true (by kernel_rfl)) (by unfold Func.isWrapper; first | (rw [if_pos (by decide +kernel)]; kernel_rfl) | (rw [if_neg (by decide +kernel)]; exact ⟨rfl, rfl⟩))
    (fun os started H enc _ => lifted os started H enc)
#print axioms proved
end LDropSound
end Go.Proofs.YtdgedcfenpmaoaaGreat
