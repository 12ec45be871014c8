import Derived.Test.YtpeghnhaekebdaaQAwake16
import Derived.Test.YtpeghnhaekebdaaQMLawBase05
set_option linter.unusedVariables false
set_option linter.unusedSimpArgs false
/- For every sound file system, data and kind: package shape tells whether an inode has them, as the document does; and each inode's own are there (no condition). -/
set_option linter.unusedVariables false
set_option linter.unusedSimpArgs false
namespace Go.Proofs.Ytpeghnhaekebdaa
open Go.ChangeShapes Go.WideShapes Go.ChangeAt Go.RowKit
open Go.ChangeMaps (open_string shut_string)
set_option linter.unusedVariables false

def hasD (d : List UInt8) (k : Int) (x : Nd) : Bool := x.data == d && x.kind == k
def wantT (l : List Nd) (d : List UInt8) (k : Int) (j : Nat) : Bool := (l.take j).any (hasD d k)
theorem wantT_next {l : List Nd} {d : List UInt8} {k : Int} {j : Nat} (h : j < l.length) : wantT l d k (j + 1) = (wantT l d k j || (l[j].data == d && l[j].kind == k)) := by
  unfold wantT
  rw [List.take_succ_eq_append_getElem h, List.any_append]
  simp [hasD]
theorem wantT_end (l : List Nd) (d : List UInt8) (k : Int) : l.any (fun x => x.data == d && x.kind == k) = wantT l d k l.length := by
  unfold wantT
  rw [List.take_length]; rfl

set_option maxHeartbeats 16000000 in
set_option maxRecDepth 100000 in
theorem lawHas16 (mi mb nx k : Int) (l : List Nd) (d : List UInt8) (v : Value) (w : World) (hv : Nds w v l) :
    Calls Try.prog 5 #[.agg (fsC mi mb nx v), .string ⟨d.toArray⟩, .int .i64 k] w fun e w' => e = .returned (.bool true) ∧ Below w.heap.size w w' := by
  obtain ⟨a, ca, rfl⟩ := nds_slice hv
  have bF := Blk.new w 24 (fsC mi mb nx (.slice a l.length ca))
  have hB := alloc_below w (.cells (fsC mi mb nx (.slice a l.length ca)) 24)
  have nV := hv.below hB
  clear hv
  cases hok : okB mi mb nx l
  · go_enter Try.func5, Try.ntmps5
    go_wp2_with fail; refine (awake16 _).mono ?_; rintro e w1 ⟨rfl, b⟩
    (replace bF := bF.next b; replace nV := nV.below b; replace hB := hB.trans (b.mono hB.size))
    obtain ⟨⟨p0, p1, p2, p3⟩, _⟩ := bF.four
    go_wp2_with fail; refine (refOk_any mi mb nx l _ _ nV).mono ?_; rintro e w2 ⟨rfl, b2⟩
    (replace bF := bF.next b2; replace nV := nV.below b2; replace hB := hB.trans (b2.mono hB.size))
    rw [hok]
    go_wp2_with fail; refine (awake16 _).mono ?_; rintro e w3 ⟨rfl, b3⟩
    go_wp2
    go_ret
    exact ⟨rfl, hB.trans (b3.mono hB.size)⟩
  have hl40 : l.length ≤ 1000 := by have := (trim_of hok).len; omega
  go_enter Try.func5, Try.ntmps5
  go_wp2_with fail; refine (awake16 _).mono ?_; rintro e w1 ⟨rfl, b⟩
  (replace bF := bF.next b; replace nV := nV.below b; replace hB := hB.trans (b.mono hB.size))
  obtain ⟨⟨p0, p1, p2, p3⟩, _⟩ := bF.four
  go_wp2_with fail; refine (refOk_any mi mb nx l _ _ nV).mono ?_; rintro e w2 ⟨rfl, b2⟩
  (replace bF := bF.next b2; replace nV := nV.below b2; replace hB := hB.trans (b2.mono hB.size))
  rw [hok]
  clear b b2 p0 p1 p2 p3
  by_cases hdl : 1000 < d.length
  · go_wp2_with fail
    refine (awake16 _).mono ?_
    rintro e w3 ⟨rfl, b3⟩
    go_wp2
    go_ret
    exact ⟨rfl, hB.trans (b3.mono hB.size)⟩
  have HBF := Lib.hid bF
  have hFl := bF.lt
  have HV := Lib.hid nV
  obtain ⟨_, _, e0, hc, hm, _, _, HA0⟩ := id nV
  simp only [Value.slice.injEq] at e0
  obtain ⟨rfl, _, rfl⟩ := e0
  unfold maxLen at hm
  have HA := Lib.hid HA0
  have HW0 : Hid (wantT l d k 0 = false) := rfl
  clear HA0 bF nV
  go_wp2
  go_loopw [7, 8] (fun s7 s8 wr => ∃ j : Nat, j ≤ l.length ∧ s7 = .bool (wantT l d k j) ∧ s8 = .int .i64 j ∧ Below w2.heap.size w2 wr) (fun _ s8 _ => l.length - (intOf s8).toNat)
  case atStart => exact ⟨0, Nat.zero_le _, by rw [HW0.out], rfl, Below.refl _ _⟩
  case round =>
    obtain ⟨j, hj, rfl, rfl, hbw⟩ := hrel
    obtain ⟨⟨p0, p1, p2, p3⟩, _⟩ := (HBF.out.next hbw).four
    by_cases hlt : j < l.length
    · obtain ⟨b, o, rfl, hb, hcl⟩ := HA.out (by omega)
      obtain ⟨c0, c1, c2, c3, c4, c5⟩ := (hcl j hlt).below hbw hb
      have hE := (HV.out.below hbw).all _ (List.getElem_mem hlt)
      have hin : l.any (fun y => y.data == l[j].data && y.kind == l[j].kind) = true := List.any_eq_true.2 ⟨l[j], List.getElem_mem hlt, by simp⟩
      have hnx := wantT_next (d := d) (k := k) hlt
      clear hcl
      have k0 : (0 : Int) ≤ (j : Int) := by omega
      have k1 : (j : Int) < (l.length : Int) := by omega
      generalize wantT l d k j = r at *
      generalize l[j] = x at *
      obtain ⟨xi, xk, xl, xd, xp, xe, xn⟩ := x
      dsimp only at hE c0 c1 c2 c3 c4 c5 hnx hin
      obtain ⟨ae, ne, rfl, _⟩ := hE
      have bX := Blk.new wr 33 (ndC ⟨xi, xk, xl, xd, xp, .slice ae xn.length ne, xn⟩)
      have sX := alloc_below wr (.cells (ndC ⟨xi, xk, xl, xd, xp, .slice ae xn.length ne, xn⟩) 33)
      have hb2 := hbw.trans (sX.mono hbw.size)
      have hH := Has16_any mi mb nx xk l xd _ _ (HV.out.below hb2) hl40
      rw [hin] at hH
      obtain ⟨⟨f0, f1, f2, f3⟩, _⟩ := (HBF.out.next hb2).four
      obtain ⟨⟨x0, x1, x2, x3, x4, x5⟩, _⟩ := bX.six
      dsimp only at x0 x1 x2 x3 x4 x5
      have HNX := Lib.hid hnx
      clear hnx hin sX bX
      cases r
      · cases hd : xd == d
        · have HN : Hid (wantT l d k (j + 1) = false) := by (show _ = _); rw [HNX.out, hd]; rfl
          go_wp2_with fail
          refine hH.mono ?_
          rintro e w4 ⟨rfl, b4⟩
          go_wp2
          go_roundw
          case rel => exact ⟨j + 1, by omega, by rw [HN.out], by go_num, hb2.trans (b4.mono hb2.size)⟩
          case measure => simp [intOf]; omega
        · have HN : Hid (wantT l d k (j + 1) = (xk == k)) := by (show _ = _); rw [HNX.out, hd]; simp
          go_wp2_with fail
          refine hH.mono ?_
          rintro e w4 ⟨rfl, b4⟩
          go_wp2
          go_roundw
          case rel => exact ⟨j + 1, by omega, by rw [HN.out], by go_num, hb2.trans (b4.mono hb2.size)⟩
          case measure => simp [intOf]; omega
      · have HN : Hid (wantT l d k (j + 1) = true) := by (show _ = _); rw [HNX.out]; rfl
        go_wp2_with fail
        refine hH.mono ?_
        rintro e w4 ⟨rfl, b4⟩
        go_wp2
        go_roundw
        case rel => exact ⟨j + 1, by omega, by rw [HN.out], by go_num, hb2.trans (b4.mono hb2.size)⟩
        case measure => simp [intOf]; omega
    · obtain rfl : j = l.length := by omega
      have hH := Has16_any mi mb nx k l d _ _ (HV.out.below hbw) hl40
      rw [wantT_end] at hH
      generalize wantT l d k l.length = r at *
      go_wp2_with fail
      refine hH.mono ?_
      rintro e w4 ⟨rfl, b4⟩
      go_wp2
      go_ret
      exact ⟨ret_bool (by simp), (hB.trans (hbw.mono hB.size)).trans (b4.mono (hB.trans (hbw.mono hB.size)).size)⟩

namespace LShapeHas
set_option maxRecDepth 100000 in
theorem lifted (os : Os) (started : os.Started) (H : Type) (enc : TypeId × Value → H) :
    ReturnsInHanded {} Try.checked os 5 .any (Rows.shapeHasSpec.pre6 enc Try.prog Try.f5 Rows.shapeHasRow.domain false) (Rows.shapeHasSpec.post enc Try.prog Try.f5 false true false false) := by
  refine returnsInHanded_of_change (C := Try.checked) (by kernel_rfl) started (by kernel_rfl) Try.func5
    (ChangeSpec.witness6 (enc := enc) (C := Try.checked) false ⟨#[], #[.agg #[.int .i64 0, .int .i64 0, .int .i64 0, .slice none 0 0], .string ByteArray.empty, .int .i64 0], []⟩ 8 (by kernel_rfl) (by kernel_rfl) (by kernel_rfl) (by kernel_rfl)) ?_
  intro W base args ds gs before hval0 hW hcnd _
  have hval : ∀ (j : Nat) t v, Try.f5.params[j]? = some t → args[j]? = some v → Value.okWide Try.prog W .any base t v := hval0
  have hW' := hW
  obtain ⟨p, q, hA0, hV, rfl, hfz, hnd⟩ := hW
  have hA : DataW.TrodAll enc Try.prog W 0 (fun _ => true) true Try.f5.params.toList args.toList ds p := hA0
  rw [Try.params5] at hA hval
  obtain ⟨v0, vs0, d0, ds0, p0, q0, hargs, rfl, rfl, k0, r0⟩ := trodAll_cons hA
  obtain ⟨v1, vs1, d1, ds1, p1, q1, rfl, rfl, rfl, k1, r1⟩ := trodAll_cons r0
  obtain ⟨v2, vs2, d2, ds2, p2, q2, rfl, rfl, rfl, k2, r2⟩ := trodAll_cons r1
  obtain ⟨rfl, rfl, rfl⟩ := trodAll_nil r2
  obtain rfl : args = #[v0, v1, v2] := by cases args; simp_all
  obtain ⟨rfl, rfl⟩ := trodVars_none hV
  have ok0 := hval 0 24 v0 rfl rfl
  have ok1 := hval 1 9 v1 rfl rfl
  have ok2 := hval 2 3 v2 rfl rfl
  have lt0 : ∀ x ∈ p0, x.block < W.heap.size := by obtain ⟨m, hm⟩ := k0; exact DataW.trod_lt m _ _ _ hm
  have lt1 : ∀ x ∈ p1, x.block < W.heap.size := by obtain ⟨m, hm⟩ := k1; exact DataW.trod_lt m _ _ _ hm
  have lt2 : ∀ x ∈ p2, x.block < W.heap.size := by obtain ⟨m, hm⟩ := k2; exact DataW.trod_lt m _ _ _ hm
  have C : Calls Try.prog 5 #[v0, v1, v2] W fun e w' => e = .returned (.bool true) ∧ Below W.heap.size W w' := by
    clear hA0 hval0 hval hW' hcnd hV hfz hnd
    obtain ⟨mi, mb, nx, x, l, rfl, hx⟩ := fs_of_trod k0 ok0
    obtain ⟨s1, rfl, rfl, rfl, hs1⟩ := open_string Try.underlying9 ok1 k1
    obtain ⟨t, rfl, rfl, rfl, ht⟩ := open_int Try.underlying3 ok2 k2
    rw [str_eta s1]
    exact lawHas16 mi mb nx t l _ x W hx
  refine C.mono fun e W' ⟨he, bel⟩ => ?_
  subst he
  exact ⟨_, rfl, _, _, _, [], _, [], hW', trodAll_mk1 (shut_bool Try.underlying4 _), (trodAll_cons_mk (Below.trod laidOut (by kernel_rfl) (of_decide_eq_true (by kernel_rfl)) k0 bel lt0) (trodAll_cons_mk (Below.trod laidOut (by kernel_rfl) (of_decide_eq_true (by kernel_rfl)) k1 bel lt1) (trodAll_cons_mk (Below.trod laidOut (by kernel_rfl) (of_decide_eq_true (by kernel_rfl)) k2 bel lt2) trodAll_mk0))), rfl, bel.frame _, fun h => by cases h⟩
theorem proved : Rows.ShapeHasSaid :=
  OpenClaim.holds_of_wide 5 Try.f5 rfl rfl rfl rfl rfl rfl rfl ⟨rfl, rfl, rfl, rfl, rfl⟩ rfl rfl rfl rfl rfl (by kernel_rfl) Try.func5 (by kernel_rfl)
    (of_decide_eq_true (by kernel_rfl)) (by unfold Func.isWrapper; first | (rw [if_pos (by decide +kernel)]; kernel_rfl) | (rw [if_neg (by decide +kernel)]; exact ⟨rfl, rfl⟩))
    (fun os started H enc _ => lifted os started H enc)
#print axioms proved
end LShapeHas
end Go.Proofs.Ytpeghnhaekebdaa
