import Derived.Test.YtoejjdebfjepaaaGreatQLawBase14
import Derived.Test.YtoejjdebfjepaaaGreatQMWalkB05
import Derived.Test.YtoejjdebfjepaaaGreatQWalkC14
set_option linter.unusedVariables false
set_option linter.unusedSimpArgs false
/- For every sound file system, and a base and paths that are short: what is handed to package move stays as it was, and what is made of a copy is what the document makes (no condition). -/
set_option linter.unusedVariables false
set_option linter.unusedSimpArgs false
namespace Go.Proofs.YtoejjdebfjepaaaGreat
open Go.ChangeShapes Go.WideShapes Go.ChangeAt Go.RowKit
open Go.ChangeMaps (open_string shut_string)
set_option linter.unusedVariables false

set_option maxHeartbeats 8000000 in
set_option maxRecDepth 100000 in
theorem lawKeeps14 (mi mb nx : Int) (l : List Nd) (base p q : List UInt8) (v : Value) (w : World) (hv : Nds w v l) :
    Calls Tryz.prog 7 #[.agg (fsC mi mb nx v), .string ⟨base.toArray⟩, .string ⟨p.toArray⟩, .string ⟨q.toArray⟩] w fun e w' => e = .returned (.bool true) ∧ Below w.heap.size w w' := by
  obtain ⟨a, ca, rfl⟩ := nds_slice hv
  have bF := Blk.new w 24 (fsC mi mb nx (.slice a l.length ca))
  have hB := alloc_below w (.cells (fsC mi mb nx (.slice a l.length ca)) 24)
  have nV := hv.below hB
  have HV := Lib.hid hv
  clear hv
  cases hf : fit14B mi mb nx l base p q
  · go_enter Tryz.func7, Tryz.ntmps7
    go_wp2_with fail; refine (awake14 _).mono ?_; rintro e w1 ⟨rfl, b⟩
    (replace bF := bF.next b; replace nV := nV.below b; replace hB := hB.trans (b.mono hB.size))
    obtain ⟨⟨p0, p1, p2, p3⟩, _⟩ := bF.four
    go_wp2_with fail; refine (fits14_any mi mb nx l base p q _ _ nV).mono ?_; rintro e w2 ⟨rfl, b2⟩
    (replace bF := bF.next b2; replace nV := nV.below b2; replace hB := hB.trans (b2.mono hB.size))
    rw [hf]
    go_wp2_with fail; refine (awake14 _).mono ?_; rintro e w3 ⟨rfl, b3⟩
    go_wp2
    go_ret
    exact ⟨rfl, hB.trans (b3.mono hB.size)⟩
  obtain ⟨hok, hsh, hsh2⟩ := fit14_parts hf
  obtain ⟨hbl, hpl⟩ := short14 hsh
  have hql := (short14 hsh2).2
  have HC := Lib.hid (fun y W hW => Rename_any mi mb nx l base p q y W hW (ok_s hok) (by omega) (by omega) (by omega))
  have HR := Lib.hid (fun W hW => refRename_any mi mb nx l base p q (.slice a l.length ca) W hW (fit_of hok) (by omega) (by omega) (by omega) (by have := seek_short l base q false; omega) (links_fit14 hok) (fun h0 hne => ren_mvok hok h0 hne))
  have HK := Lib.hid (fun a b c a' b' c' => renameF_key l base p q a b c a' b' c')
  have hl40 := (fit_of hok).few
  obtain ⟨i0, hi, hz0, hz1, hz2⟩ := info_parts infoN
  generalize renameF l base p q = R at *
  go_enter Tryz.func7, Tryz.ntmps7
  go_wp2_with fail; refine (awake14 _).mono ?_; rintro e w1 ⟨rfl, b1⟩
  (replace bF := bF.next b1; replace nV := nV.below b1; replace hB := hB.trans (b1.mono hB.size))
  obtain ⟨⟨p0, p1, p2, p3⟩, _⟩ := bF.four
  go_wp2_with fail; refine (fits14_any mi mb nx l base p q _ _ nV).mono ?_; rintro e w2 ⟨rfl, b2⟩
  (replace bF := bF.next b2; replace nV := nV.below b2; replace hB := hB.trans (b2.mono hB.size))
  rw [hf]
  clear p0 p1 p2 p3
  obtain ⟨⟨p0, p1, p2, p3⟩, _⟩ := bF.four
  go_upto_region 4 with fail
  clear p0 p1 p2 p3 b1 b2
  have bG := Blk.new w2 24 (fsC mi mb nx (.slice a l.length ca))
  have b3 := alloc_below w2 (.cells (fsC mi mb nx (.slice a l.length ca)) 24)
  have hlt2 := bF.lt
  (replace bF := bF.next b3; replace nV := nV.below b3; replace hB := hB.trans (b3.mono hB.size))
  have hBG := bG.lt
  clear b3
  generalize w2.alloc (.cells (fsC mi mb nx (.slice a l.length ca)) 24) = w3 at *
  generalize w2.heap.size = BG at *
  have own0 : (w3.alloc (.cells #[] 36)).ownsRow w3.heap.size 36 6 (.slice (some ⟨w3.heap.size, 0, none⟩) 0 0) 0 [] := World.ownsRow_lit w3 #[] 0 (Nat.le_refl _) (Nat.zero_le _) rfl
  have b4 := alloc_below w3 (.cells #[] 36)
  have hnone : a = none → l.length = 0 ∧ ca = 0 := by
    intro h
    obtain ⟨a', c', e, h1, _, _, h2, _⟩ := nV
    simp only [Value.slice.injEq] at e
    obtain ⟨rfl, _, rfl⟩ := e
    have := h2 h
    omega
  have HN := Lib.hid hnone
  have HSr := Lib.hid (nV.below b4)
  have hB4 := hB.trans (b4.mono hB.size)
  have bF4 := bF.next b4
  have bG4 := bG.next b4
  have hsz4 := b4.size
  have p3 := bF4.four.1.2.2.2
  have hBF := bF.lt
  clear hnone b4 bG
  go_wp2_with (at_builtin; refine wpList_append_any rfl (.tmp 26) (.tmp 28) 22 36 rfl Tryz.underlying22 hi hz0 hz1 hz2 rfl (by decide) (by decide) w3.heap.size a l.length ca (ndsV l) rfl rfl own0 HN.out (ndsV_len _) HSr.out.src (ndsV_one HSr.out.all) (by omega) hsz4 ?_; intro v5 w5 hown5 hb5; simp only [Nat.zero_add, List.nil_append] at hown5; obtain ⟨a5, c5, rfl⟩ := own_slice hown5; have bG5 := bG4.below hb5 hBG; have bF5 := bF4.below hb5 hBF; have hB5 := hB4.trans (hb5.mono hB.size); obtain ⟨⟨q0, q1, q2, q3⟩, e0, e1, e2, e3⟩ := bG5.four; have bG6 := bG5.set 3 (.slice a5 l.length c5); rw [show (fsC mi mb nx (.slice a l.length ca)).setIfInBounds 3 (.slice a5 l.length c5) = fsC mi mb nx (.slice a5 l.length c5) from rfl] at bG6; have bF6 := bF5.other (B2 := BG) (i := 3) (by omega) (.slice a5 l.length c5); have hB6 := hB5.setCell (p := ⟨BG, 3, none⟩) (Nat.le_of_lt hlt2) (.slice a5 l.length c5); have own6 := World.ownsRow.kept hown5 (grownBy_set w5 BG 3 (.slice a5 l.length c5)) (own_not hown5 hBG); generalize hw6 : World.setCell w5 ⟨BG, 3, none⟩ (.slice a5 l.length c5) = w6 at *; clear hB5 bG5 bF5; obtain ⟨⟨p0, p1, p2, p3⟩, _⟩ := bG6.four)
  have nO := own_nds own6 (HV.out.below hB6).all
  clear own6 hw6 q0 q1 q2 q3 e0 e1 e2 e3 hown5 hb5 bF4 bG4 hB4 own0 HSr HN nV hB bF hBG hBF hlt2 hsz4 hi hz0 hz1 hz2
  refine (HC.out _ _ nO).mono ?_
  rintro e w7 ⟨y1, ev1, i1, j1, rfl, hM1, b7⟩
  have n1 := hM1.now nO b7
  have HKa := Lib.hid (fun a' b' c' => HK.out ev1 i1 j1 a' b' c')
  generalize R ev1 i1 j1 = Z1 at *
  obtain ⟨L1, q1⟩ := Z1
  dsimp only at n1
  obtain ⟨a1, c1, rfl⟩ := nds_slice n1
  have s7 := alloc_below w7 (.cells (fsC mi mb nx (.slice a1 L1.length c1)) 24)
  have bA := Blk.new w7 24 (fsC mi mb nx (.slice a1 L1.length c1))
  have b8 := b7.trans (s7.mono b7.size)
  replace n1 := n1.below s7
  replace bF6 := bF6.next b8
  replace bG6 := bG6.next b8
  replace nO := nO.below b8
  replace hB6 := hB6.trans (b8.mono hB6.size)
  clear b7 s7 b8 hM1 p0 p1 p2 p3 HC HK
  have nF := HV.out.below hB6
  have hSm := refTab_any mi mb nx mi mb nx l l _ _ _ nO nF
  rw [tab_eq14 (onesB_refl l)] at hSm
  obtain ⟨⟨p0, p1, p2, p3⟩, _⟩ := bG6.four
  obtain ⟨⟨r0, r1, r2, r3⟩, _⟩ := bF6.four
  go_wp2_with fail
  refine hSm.mono ?_
  rintro e wa ⟨rfl, ba⟩
  replace n1 := n1.below ba
  replace bA := bA.next ba
  replace bF6 := bF6.next ba
  replace nF := nF.below ba
  replace hB6 := hB6.trans (ba.mono hB6.size)
  clear ba p0 p1 p2 p3 r0 r1 r2 r3 hSm nO bG6
  obtain ⟨⟨r0, r1, r2, r3⟩, _⟩ := bF6.four
  go_wp2_with fail
  refine (HR.out _ nF).mono ?_
  rintro e wb3 ⟨y4, ev4, i4, j4, rfl, hM4, b4⟩
  have n3 := hM4.now nF b4
  obtain ⟨hk3, hO3⟩ := HKa.out ev4 i4 j4
  generalize R ev4 i4 j4 = Z4 at *
  obtain ⟨L3, q3⟩ := Z4
  dsimp only at n3 hk3 hO3
  obtain ⟨a3, c3, rfl⟩ := nds_slice n3
  have s4 := alloc_below wb3 (.cells (fsC mi mb nx (.slice a3 L3.length c3)) 24)
  have b3 := Blk.new wb3 24 (fsC mi mb nx (.slice a3 L3.length c3))
  have b5 := b4.trans (s4.mono b4.size)
  replace n3 := n3.below s4
  replace n1 := n1.below b5
  replace bA := bA.next b5
  replace hB6 := hB6.trans (b5.mono hB6.size)
  clear b4 s4 b5 r0 r1 r2 r3 hM4 HR HKa
  subst hk3
  have hS1 := refTab_any mi mb nx mi mb nx L1 L3 _ _ _ n1 n3
  rw [tab_eq14 hO3] at hS1
  obtain ⟨⟨f0, f1, f2, f3⟩, _⟩ := bA.four
  obtain ⟨⟨g0, g1, g2, g3⟩, _⟩ := b3.four
  go_wp2_with fail
  refine hS1.mono ?_
  rintro e wc ⟨rfl, b5⟩
  go_wp2
  go_ret
  exact ⟨rfl, hB6.trans (b5.mono hB6.size)⟩

namespace LMoveKeeps
set_option maxRecDepth 100000 in
theorem lifted (os : Os) (started : os.Started) (H : Type) (enc : TypeId × Value → H) :
    ReturnsInHanded {} Tryz.checked os 7 .any (Rows.moveKeepsSpec.pre6 enc Tryz.prog Tryz.f7 Rows.moveKeepsRow.domain false) (Rows.moveKeepsSpec.post enc Tryz.prog Tryz.f7 false true false false) := by
  refine returnsInHanded_of_change (C := Tryz.checked) (by kernel_rfl) started (by kernel_rfl) Tryz.func7
    (ChangeSpec.witness6 (enc := enc) (C := Tryz.checked) false ⟨#[], #[.agg #[.int .i64 0, .int .i64 0, .int .i64 0, .slice none 0 0], .string ByteArray.empty, .string ByteArray.empty, .string ByteArray.empty], []⟩ 8 (by kernel_rfl) (by kernel_rfl) (by kernel_rfl) (by kernel_rfl)) ?_
  intro W base args ds gs before hval0 hW hcnd _
  have hval : ∀ (j : Nat) t v, Tryz.f7.params[j]? = some t → args[j]? = some v → Value.okWide Tryz.prog W .any base t v := hval0
  have hW' := hW
  obtain ⟨p, q, hA0, hV, rfl, hfz, hnd⟩ := hW
  have hA : DataW.TrodAll enc Tryz.prog W 0 (fun _ => true) true Tryz.f7.params.toList args.toList ds p := hA0
  rw [Tryz.params7] at hA hval
  obtain ⟨v0, vs0, d0, ds0, p0, q0, hargs, rfl, rfl, k0, r0⟩ := trodAll_cons hA
  obtain ⟨v1, vs1, d1, ds1, p1, q1, rfl, rfl, rfl, k1, r1⟩ := trodAll_cons r0
  obtain ⟨v2, vs2, d2, ds2, p2, q2, rfl, rfl, rfl, k2, r2⟩ := trodAll_cons r1
  obtain ⟨v3, vs3, d3, ds3, p3, q3, rfl, rfl, rfl, k3, r3⟩ := trodAll_cons r2
  obtain ⟨rfl, rfl, rfl⟩ := trodAll_nil r3
  obtain rfl : args = #[v0, v1, v2, v3] := by cases args; simp_all
  obtain ⟨rfl, rfl⟩ := trodVars_none hV
  have ok0 := hval 0 24 v0 rfl rfl
  have ok1 := hval 1 9 v1 rfl rfl
  have ok2 := hval 2 9 v2 rfl rfl
  have ok3 := hval 3 9 v3 rfl rfl
  have lt0 : ∀ x ∈ p0, x.block < W.heap.size := by obtain ⟨m, hm⟩ := k0; exact DataW.trod_lt m _ _ _ hm
  have lt1 : ∀ x ∈ p1, x.block < W.heap.size := by obtain ⟨m, hm⟩ := k1; exact DataW.trod_lt m _ _ _ hm
  have lt2 : ∀ x ∈ p2, x.block < W.heap.size := by obtain ⟨m, hm⟩ := k2; exact DataW.trod_lt m _ _ _ hm
  have lt3 : ∀ x ∈ p3, x.block < W.heap.size := by obtain ⟨m, hm⟩ := k3; exact DataW.trod_lt m _ _ _ hm
  have C : Calls Tryz.prog 7 #[v0, v1, v2, v3] W fun e w' => e = .returned (.bool true) ∧ Below W.heap.size W w' := by
    clear hA0 hval0 hval hW' hcnd hV hfz hnd
    obtain ⟨mi, mb, nx, x, l, rfl, hx⟩ := fs_of_trod k0 ok0
    obtain ⟨s1, rfl, rfl, rfl, hs1⟩ := open_string Tryz.underlying9 ok1 k1
    obtain ⟨s2, rfl, rfl, rfl, hs2⟩ := open_string Tryz.underlying9 ok2 k2
    obtain ⟨s3, rfl, rfl, rfl, hs3⟩ := open_string Tryz.underlying9 ok3 k3
    rw [str_eta s1, str_eta s2, str_eta s3]
    exact lawKeeps14 mi mb nx l _ _ _ x W hx
  refine C.mono fun e W' ⟨he, bel⟩ => ?_
  subst he
  exact ⟨_, rfl, _, _, _, [], _, [], hW', trodAll_mk1 (shut_bool Tryz.underlying4 _), (trodAll_cons_mk (Below.trod laidOut (by kernel_rfl) (of_decide_eq_true (by kernel_rfl)) k0 bel lt0) (trodAll_cons_mk (Below.trod laidOut (by kernel_rfl) (of_decide_eq_true (by kernel_rfl)) k1 bel lt1) (trodAll_cons_mk (Below.trod laidOut (by kernel_rfl) (of_decide_eq_true (by kernel_rfl)) k2 bel lt2) (trodAll_cons_mk (Below.trod laidOut (by kernel_rfl) (of_decide_eq_true (by kernel_rfl)) k3 bel lt3) trodAll_mk0)))), rfl, bel.frame _, fun h => by cases h⟩
theorem proved : Rows.MoveKeepsSaid :=
  OpenClaim.holds_of_wide 7 Tryz.f7 rfl rfl rfl rfl rfl rfl rfl ⟨rfl, rfl, rfl, rfl, rfl⟩ rfl rfl rfl rfl rfl (by kernel_rfl) Tryz.func7 (by kernel_rfl)
    (of_decide_eq_true (by kernel_rfl)) (by unfold Func.isWrapper; first | (rw [if_pos (by decide +kernel)]; kernel_rfl) | (rw [if_neg (by decide +kernel)]; exact ⟨rfl, rfl⟩))
    (fun os started H enc _ => lifted os started H enc)
#print axioms proved
end LMoveKeeps
end Go.Proofs.YtoejjdebfjepaaaGreat
