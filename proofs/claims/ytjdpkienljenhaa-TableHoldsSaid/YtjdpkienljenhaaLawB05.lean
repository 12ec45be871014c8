/- For every table of few inodes that rise, and every number: package table gets the document's inode, and drops it as the document does (no condition). -/
import Derived.Test.YtjdpkienljenhaaLawBase05
import Derived.Test.YtjdpkienljenhaaLawA05
import Derived.BigQuiet
namespace Go.Proofs.Ytjdpkienljenhaa
open Go.ChangeShapes Go.WideShapes Go.ChangeAt Go.RowKit
open Go.ChangeMaps (open_string shut_string)
set_option linter.unusedVariables false

theorem get_ents {w : World} {l : List Nd} (h : EntsAll w l) (n : Int) : Ents w (getN l n).ev (getN l n).ents := by
  unfold getN
  cases he : l.find? (fun e => e.ino == n) with
  | none => exact Ents.nil_ w
  | some x => exact h x (List.mem_of_find?_eq_some he)
theorem one_same (x : Nd) (w : World) (hx : Ents w x.ev x.ents) : Calls Try.prog 17 #[.agg (ndC x), .agg (ndC x)] w fun e w' => e = .returned (.bool true) ∧ Below w.heap.size w w' := by
  have := refOne_any x x w hx hx
  rwa [oneB_refl] at this
theorem dropN_call (mi mb nx n : Int) (l : List Nd) (v : Value) (w : World) (hv : Nds w v l) (hs : riseP l) (hl : l.length ≤ 40) (hd : ∀ y ∈ l, y.data.length ≤ 281474976710656) :
    Calls Try.prog 18 #[.agg (fsC mi mb nx v), .int .i64 n] w fun e w' => ∃ y, e = .returned (.agg (fsC mi mb nx y)) ∧ Nds w' y (dropN l n) ∧ Below w.heap.size w w' := by
  refine (DropN_any mi mb nx n l v w hv hs (by omega) hd).mono ?_
  rintro e w' ⟨y, rfl, hnew⟩
  exact ⟨y, rfl, new_nds hnew ((hv.below hnew.2).all.sub fun x hx => mem_dropN hx), hnew.2⟩
theorem refDrop_call (mi mb nx n : Int) (l : List Nd) (v : Value) (w : World) (hv : Nds w v l) (hs : riseP l) (hl : l.length ≤ 40) :
    Calls Try.prog 19 #[.agg (fsC mi mb nx v), .int .i64 n] w fun e w' => ∃ y, e = .returned (.agg (fsC mi mb nx y)) ∧ Nds w' y (dropN l n) ∧ Below w.heap.size w w' := by
  refine (refDropT_any mi mb nx n l v w hv (by omega)).mono ?_
  rintro e w' ⟨y, rfl, hnew⟩
  rw [dropN_eq l n hs] at hnew
  exact ⟨y, rfl, new_nds hnew ((hv.below hnew.2).all.sub fun x hx => mem_dropN hx), hnew.2⟩

set_option maxHeartbeats 4000000 in
set_option maxRecDepth 100000 in
theorem lawGets (mi mb nx n : Int) (l : List Nd) (v : Value) (w : World) (hv : Nds w v l) :
    Calls Try.prog 4 #[.agg (fsC mi mb nx v), .int .i64 n] w fun e w' => e = .returned (.bool true) ∧ Below w.heap.size w w' := by
  obtain ⟨a, ca, rfl⟩ := nds_slice hv
  have bF := Blk.new w 25 (fsC mi mb nx (.slice a l.length ca))
  have hB := alloc_below w (.cells (fsC mi mb nx (.slice a l.length ca)) 25)
  have nV := hv.below hB
  clear hv
  cases hf : fewN l
  · go_enter Try.func4, Try.ntmps4
    go_wp2_with fail; refine (awake_any _).mono ?_; rintro e w1 ⟨rfl, b⟩
    (replace bF := bF.next b; replace nV := nV.below b; replace hB := hB.trans (b.mono hB.size))
    obtain ⟨⟨p0, p1, p2, p3⟩, _⟩ := bF.four
    go_wp2_with fail; refine (fewT_any mi mb nx l _ _ nV).mono ?_; rintro e w2 ⟨rfl, b2⟩
    rw [hf]
    go_wp2_with fail; refine (awake_any _).mono ?_; rintro e w3 ⟨rfl, b3⟩
    go_wp2
    go_ret
    exact ⟨rfl, (hB.trans (b2.mono hB.size)).trans (b3.mono (hB.trans (b2.mono hB.size)).size)⟩
  have hsm := fewN_small hf
  have hl40 := hsm.1
  have hd : ∀ y ∈ l, y.data.length ≤ 281474976710656 := fun y hy => Nat.le_trans (hsm.2 y hy) (by decide)
  cases hr : riseN l
  · go_enter Try.func4, Try.ntmps4
    go_wp2_with fail; refine (awake_any _).mono ?_; rintro e w1 ⟨rfl, b⟩
    (replace bF := bF.next b; replace nV := nV.below b; replace hB := hB.trans (b.mono hB.size))
    obtain ⟨⟨p0, p1, p2, p3⟩, _⟩ := bF.four
    go_wp2_with fail; refine (fewT_any mi mb nx l _ _ nV).mono ?_; rintro e w2 ⟨rfl, b2⟩
    (replace bF := bF.next b2; replace nV := nV.below b2; replace hB := hB.trans (b2.mono hB.size))
    rw [hf]
    clear p0 p1 p2 p3
    obtain ⟨⟨p0, p1, p2, p3⟩, _⟩ := bF.four
    go_wp2_with fail; refine (riseT_any mi mb nx l _ _ nV (by omega)).mono ?_; rintro e w3 ⟨rfl, b3⟩
    (replace bF := bF.next b3; replace nV := nV.below b3; replace hB := hB.trans (b3.mono hB.size))
    rw [hr]
    go_wp2_with fail; refine (awake_any _).mono ?_; rintro e w4 ⟨rfl, b4⟩
    go_wp2
    go_ret
    exact ⟨rfl, hB.trans (b4.mono hB.size)⟩
  have hrp := (riseN_iff l).1 hr
  clear hsm
  have HD := Lib.hid hd
  clear hd
  go_enter Try.func4, Try.ntmps4
  go_wp2_with fail; refine (awake_any _).mono ?_; rintro e w1 ⟨rfl, b⟩
  (replace bF := bF.next b; replace nV := nV.below b; replace hB := hB.trans (b.mono hB.size))
  obtain ⟨⟨p0, p1, p2, p3⟩, _⟩ := bF.four
  go_wp2_with fail; refine (fewT_any mi mb nx l _ _ nV).mono ?_; rintro e w2 ⟨rfl, b2⟩
  (replace bF := bF.next b2; replace nV := nV.below b2; replace hB := hB.trans (b2.mono hB.size))
  rw [hf]
  clear p0 p1 p2 p3
  obtain ⟨⟨p0, p1, p2, p3⟩, _⟩ := bF.four
  go_wp2_with fail; refine (riseT_any mi mb nx l _ _ nV (by omega)).mono ?_; rintro e w3 ⟨rfl, b3⟩
  (replace bF := bF.next b3; replace nV := nV.below b3; replace hB := hB.trans (b3.mono hB.size))
  rw [hr]
  clear p0 p1 p2 p3 b b2 b3
  obtain ⟨⟨p0, p1, p2, p3⟩, _⟩ := bF.four
  go_wp2_with fail; refine (GetN_any mi mb nx n l _ _ nV hrp (by omega) HD.out).mono ?_; rintro e w4 ⟨rfl, b4⟩
  (replace bF := bF.next b4; replace nV := nV.below b4; replace hB := hB.trans (b4.mono hB.size))
  clear p0 p1 p2 p3 b4
  have hge := get_ents nV.all n
  generalize hG : getN l n = G at *
  generalize hH : hasN l n = H at *
  have HG := Lib.hid hG
  have HH := Lib.hid hH
  clear hG hH
  obtain ⟨gi, gk, gl, gd, gp, ge, gn⟩ := G
  dsimp only at hge
  obtain ⟨ag, cg, rfl, _⟩ := id hge
  have bX : Blk (w4.alloc (.cells #[.int .i64 gi, .int .i64 gk, .int .i64 gl, .string ⟨gd.toArray⟩, .int .i64 gp, .slice ag gn.length cg] 35)) w4.heap.size 35 (ndC ⟨gi, gk, gl, gd, gp, .slice ag gn.length cg, gn⟩) := Blk.new w4 35 (ndC ⟨gi, gk, gl, gd, gp, .slice ag gn.length cg, gn⟩)
  have hS := alloc_below w4 (.cells #[.int .i64 gi, .int .i64 gk, .int .i64 gl, .string ⟨gd.toArray⟩, .int .i64 gp, .slice ag gn.length cg] 35)
  obtain ⟨⟨q0, q1, q2, q3⟩, _⟩ := bF.four
  have ne1 : ¬ (w.heap.size = w4.heap.size) := by have := bF.lt; omega
  have ne2 : ¬ (w4.heap.size = w.heap.size) := by omega
  (replace bF := bF.next hS; replace nV := nV.below hS; replace hB := hB.trans (hS.mono hB.size))
  replace hge := hge.below hS
  obtain ⟨⟨p0, p1, p2, p3⟩, _⟩ := bF.four
  go_wp2_with fail
  have hRG := refGetT_any mi mb nx n l _ _ nV
  rw [HG.out, HH.out] at hRG
  refine hRG.mono ?_
  rintro e w5 ⟨rfl, b5⟩
  clear hRG p0 p1 p2 p3 q0 q1 q2 q3 ne1 ne2 hS
  (replace bF := bF.next b5; replace nV := nV.below b5; replace hB := hB.trans (b5.mono hB.size))
  replace hge := hge.below b5
  replace bX := bX.next b5
  have bY : Blk (w5.alloc (.cells #[.int .i64 gi, .int .i64 gk, .int .i64 gl, .string ⟨gd.toArray⟩, .int .i64 gp, .slice ag gn.length cg] 35)) w5.heap.size 35 (ndC ⟨gi, gk, gl, gd, gp, .slice ag gn.length cg, gn⟩) := Blk.new w5 35 (ndC ⟨gi, gk, gl, gd, gp, .slice ag gn.length cg, gn⟩)
  have hS := alloc_below w5 (.cells #[.int .i64 gi, .int .i64 gk, .int .i64 gl, .string ⟨gd.toArray⟩, .int .i64 gp, .slice ag gn.length cg] 35)
  (replace bF := bF.next hS; replace nV := nV.below hS; replace hB := hB.trans (hS.mono hB.size))
  replace hge := hge.below hS
  replace bX := bX.next hS
  have hlX := bX.lt
  clear b5 hS
  go_upto_region 5 with fail
  generalize w5.alloc (.cells #[.int .i64 gi, .int .i64 gk, .int .i64 gl, .string ⟨gd.toArray⟩, .int .i64 gp, .slice ag gn.length cg] 35) = A at *
  generalize w5.heap.size = BY at *
  generalize w4.heap.size = BX at *
  have HMK : ∀ W, Below A.heap.size A W → (W.cell? ⟨w.heap.size, 0, none⟩ = some (.int .i64 mi) ∧ W.cell? ⟨w.heap.size, 1, none⟩ = some (.int .i64 mb) ∧ W.cell? ⟨w.heap.size, 2, none⟩ = some (.int .i64 nx) ∧ W.cell? ⟨w.heap.size, 3, none⟩ = some (.slice a l.length ca) ∧ W.cell? ⟨BX, 0, none⟩ = some (.int .i64 gi) ∧ W.cell? ⟨BX, 1, none⟩ = some (.int .i64 gk) ∧ W.cell? ⟨BX, 2, none⟩ = some (.int .i64 gl) ∧ W.cell? ⟨BX, 3, none⟩ = some (.string ⟨gd.toArray⟩) ∧ W.cell? ⟨BX, 4, none⟩ = some (.int .i64 gp) ∧ W.cell? ⟨BX, 5, none⟩ = some (.slice ag gn.length cg) ∧ W.cell? ⟨BY, 0, none⟩ = some (.int .i64 gi) ∧ W.cell? ⟨BY, 1, none⟩ = some (.int .i64 gk) ∧ W.cell? ⟨BY, 2, none⟩ = some (.int .i64 gl) ∧ W.cell? ⟨BY, 3, none⟩ = some (.string ⟨gd.toArray⟩) ∧ W.cell? ⟨BY, 4, none⟩ = some (.int .i64 gp) ∧ W.cell? ⟨BY, 5, none⟩ = some (.slice ag gn.length cg)) := by
    intro W h
    obtain ⟨⟨x0, x1, x2, x3⟩, _⟩ := (bF.next h).four
    obtain ⟨⟨y0, y1, y2, y3, y4, y5⟩, _⟩ := (bX.next h).six
    obtain ⟨⟨z0, z1, z2, z3, z4, z5⟩, _⟩ := (bY.next h).six
    exact ⟨x0, x1, x2, x3, y0, y1, y2, y3, y4, y5, z0, z1, z2, z3, z4, z5⟩
  have hq := (Below.refl A.heap.size A).drew
  have hhe : (H == H) = true := by simp
  clear bF bX bY
  go_region_held3 (fun W => W.cell? ⟨w.heap.size, 0, none⟩ = some (.int .i64 mi) ∧ W.cell? ⟨w.heap.size, 1, none⟩ = some (.int .i64 mb) ∧ W.cell? ⟨w.heap.size, 2, none⟩ = some (.int .i64 nx) ∧ W.cell? ⟨w.heap.size, 3, none⟩ = some (.slice a l.length ca) ∧ W.cell? ⟨BX, 0, none⟩ = some (.int .i64 gi) ∧ W.cell? ⟨BX, 1, none⟩ = some (.int .i64 gk) ∧ W.cell? ⟨BX, 2, none⟩ = some (.int .i64 gl) ∧ W.cell? ⟨BX, 3, none⟩ = some (.string ⟨gd.toArray⟩) ∧ W.cell? ⟨BX, 4, none⟩ = some (.int .i64 gp) ∧ W.cell? ⟨BX, 5, none⟩ = some (.slice ag gn.length cg) ∧ W.cell? ⟨BY, 0, none⟩ = some (.int .i64 gi) ∧ W.cell? ⟨BY, 1, none⟩ = some (.int .i64 gk) ∧ W.cell? ⟨BY, 2, none⟩ = some (.int .i64 gl) ∧ W.cell? ⟨BY, 3, none⟩ = some (.string ⟨gd.toArray⟩) ∧ W.cell? ⟨BY, 4, none⟩ = some (.int .i64 gp) ∧ W.cell? ⟨BY, 5, none⟩ = some (.slice ag gn.length cg))
    (exact HMK _ hq)
    (first
      | (go_at_call 17; refine (one_same ⟨gi, gk, gl, gd, gp, .slice ag gn.length cg, gn⟩ _ (hge.below hq)).mono ?_; rintro e wz ⟨rfl, bz⟩; have hq := hq.trans (bz.mono hq.size))
      | (go_at_call 18; refine (dropN_call mi mb nx n l _ _ (nV.below hq) hrp hl40 HD.out).mono ?_; rintro e wz ⟨y1, rfl, nD1, bz⟩; obtain ⟨ad1, cd1, rfl⟩ := nds_slice nD1; have hq := hq.trans (bz.mono hq.size); try (replace nD2 := nD2.below bz))
      | (go_at_call 19; refine (refDrop_call mi mb nx n l _ _ (nV.below hq) hrp hl40).mono ?_; rintro e wz ⟨y2, rfl, nD2, bz⟩; obtain ⟨ad2, cd2, rfl⟩ := nds_slice nD2; have hq := hq.trans (bz.mono hq.size); try (replace nD1 := nD1.below bz))
      | (go_at_call 11; refine (tab_same mi mb nx (dropN l n) _ _ _ nD1 nD2).mono ?_; rintro e wz ⟨rfl, bz⟩; have hq := hq.trans (bz.mono hq.size)))
  all_goals go_wp2
  all_goals go_ret
  all_goals exact ⟨rfl, hB.trans (hq.mono hB.size)⟩

namespace LTableGets
set_option maxRecDepth 100000 in
theorem lifted (os : Os) (started : os.Started) (H : Type) (enc : TypeId × Value → H) :
    ReturnsInHanded {} Try.checked os 4 .any (Rows.tableGetsSpec.pre6 enc Try.prog Try.f4 Rows.tableGetsRow.domain false) (Rows.tableGetsSpec.post enc Try.prog Try.f4 false true false false) := by
  refine returnsInHanded_of_change (C := Try.checked) (by kernel_rfl) started (by kernel_rfl) Try.func4
    (ChangeSpec.witness6 (enc := enc) (C := Try.checked) false ⟨#[], #[.agg #[.int .i64 0, .int .i64 0, .int .i64 0, .slice none 0 0], .int .i64 0], []⟩ 8 (by kernel_rfl) (by kernel_rfl) (by kernel_rfl) (by kernel_rfl)) ?_
  intro W base args ds gs before hval0 hW hcnd _
  have hval : ∀ (j : Nat) t v, Try.f4.params[j]? = some t → args[j]? = some v → Value.okWide Try.prog W .any base t v := hval0
  have hW' := hW
  obtain ⟨p, q, hA0, hV, rfl, hfz, hnd⟩ := hW
  have hA : DataW.TrodAll enc Try.prog W 0 (fun _ => true) true Try.f4.params.toList args.toList ds p := hA0
  rw [Try.params4] at hA hval
  obtain ⟨v0, vs0, d0, ds0, p0, q0, hargs, rfl, rfl, k0, r0⟩ := trodAll_cons hA
  obtain ⟨v1, vs1, d1, ds1, p1, q1, rfl, rfl, rfl, k1, r1⟩ := trodAll_cons r0
  obtain ⟨rfl, rfl, rfl⟩ := trodAll_nil r1
  obtain rfl : args = #[v0, v1] := by cases args; simp_all
  obtain ⟨rfl, rfl⟩ := trodVars_none hV
  have ok0 := hval 0 25 v0 rfl rfl
  have ok1 := hval 1 3 v1 rfl rfl
  have lt0 : ∀ x ∈ p0, x.block < W.heap.size := by obtain ⟨m, hm⟩ := k0; exact DataW.trod_lt m _ _ _ hm
  have lt1 : ∀ x ∈ p1, x.block < W.heap.size := by obtain ⟨m, hm⟩ := k1; exact DataW.trod_lt m _ _ _ hm
  have C : Calls Try.prog 4 #[v0, v1] W fun e w' => e = .returned (.bool true) ∧ Below W.heap.size W w' := by
    clear hA0 hval0 hval hW' hcnd hV hfz hnd
    obtain ⟨mi, mb, nx, x, l, rfl, hx⟩ := fs_of_trod k0 ok0
    obtain ⟨n, rfl, rfl, rfl, hn⟩ := open_int Try.underlying3 ok1 k1
    exact lawGets mi mb nx n l x W hx
  refine C.mono fun e W' ⟨he, bel⟩ => ?_
  subst he
  exact ⟨_, rfl, _, _, _, [], _, [], hW', trodAll_mk1 (shut_bool Try.underlying4 _), (trodAll_cons_mk (Below.trod laidOut (by kernel_rfl) (of_decide_eq_true (by kernel_rfl)) k0 bel lt0) (trodAll_cons_mk (Below.trod laidOut (by kernel_rfl) (of_decide_eq_true (by kernel_rfl)) k1 bel lt1) trodAll_mk0)), rfl, bel.frame _, fun h => by cases h⟩
theorem proved : Rows.TableGetsSaid :=
  OpenClaim.holds_of_wide 4 Try.f4 rfl rfl rfl rfl rfl rfl rfl ⟨rfl, rfl, rfl, rfl, rfl⟩ rfl rfl rfl rfl rfl (by kernel_rfl) Try.func4 (by kernel_rfl)
    (of_decide_eq_true (by kernel_rfl)) (by unfold Func.isWrapper; first | (rw [if_pos (by decide +kernel)]; kernel_rfl) | (rw [if_neg (by decide +kernel)]; exact ⟨rfl, rfl⟩))
    (fun os started H enc _ => lifted os started H enc)
#print axioms proved
end LTableGets
end Go.Proofs.Ytjdpkienljenhaa
