/- For every sound file system, and a base, a path and data that are short: package create puts an inode in as the document does (no condition). -/
import Derived.Test.YtobepdmpacdakaaGreatQLawBase11
import Derived.Test.YtobepdmpacdakaaGreatQAwake11
import Derived.Test.YtobepdmpacdakaaGreatQLawBase05
import Derived.Test.YtobepdmpacdakaaGreatQWalkH05
import Derived.Test.YtobepdmpacdakaaGreatQB
set_option linter.unusedVariables false
set_option linter.unusedSimpArgs false
namespace Go.Proofs.YtobepdmpacdakaaGreat
open Go.ChangeShapes Go.WideShapes Go.ChangeAt Go.RowKit
open Go.ChangeMaps (open_string shut_string)
set_option linter.unusedVariables false

set_option maxHeartbeats 8000000 in
set_option maxRecDepth 100000 in
theorem lawNews11 (mi mb nx : Int) (l : List Nd) (base p data : List UInt8) (kd : Nat) (hkd : kd < 256) (v : Value) (w : World) (hv : Nds w v l) :
    Calls Tryz.prog 6 #[.agg (fsC mi mb nx v), .string ⟨base.toArray⟩, .string ⟨p.toArray⟩, .int .u8 (kd : Int), .string ⟨data.toArray⟩] w fun e w' => e = .returned (.bool true) ∧ Below w.heap.size w w' := by
  obtain ⟨a, ca, rfl⟩ := nds_slice hv
  have bF := Blk.new w 24 (fsC mi mb nx (.slice a l.length ca))
  have hB := alloc_below w (.cells (fsC mi mb nx (.slice a l.length ca)) 24)
  have nV := hv.below hB
  clear hv
  cases hf : fit11B mi mb nx l base p data
  · go_enter Tryz.func6, Tryz.ntmps6
    go_wp2_with fail; refine (awake11 _).mono ?_; rintro e w1 ⟨rfl, b⟩
    (replace bF := bF.next b; replace nV := nV.below b; replace hB := hB.trans (b.mono hB.size))
    obtain ⟨⟨p0, p1, p2, p3⟩, _⟩ := bF.four
    go_wp2_with fail; refine (fits11_any mi mb nx l base p data _ _ nV).mono ?_; rintro e w2 ⟨rfl, b2⟩
    (replace bF := bF.next b2; replace nV := nV.below b2; replace hB := hB.trans (b2.mono hB.size))
    rw [hf]
    go_wp2_with fail; refine (awake11 _).mono ?_; rintro e w3 ⟨rfl, b3⟩
    go_wp2
    go_ret
    exact ⟨rfl, hB.trans (b3.mono hB.size)⟩
  obtain ⟨hok, hnx, hsh, hdl⟩ := fit11_parts hf
  obtain ⟨hbl, hpl⟩ := short11 hsh
  have hSk := fun W hW => refSeek_any mi mb nx l base p true (.slice a l.length ca) W hW (fun i => (calm_get (calm_of hok) i).2.2.1) (by omega) (by omega)
  have hgood := (seek_good hok base p).1
  have hsn := seek_short l base p true
  generalize seekP l base p true = q at *
  obtain ⟨⟨sd, sn, si⟩, er⟩ := q
  dsimp only at hSk hgood hsn
  go_enter Tryz.func6, Tryz.ntmps6
  go_wp2_with fail; refine (awake11 _).mono ?_; rintro e w1 ⟨rfl, b⟩
  (replace bF := bF.next b; replace nV := nV.below b; replace hB := hB.trans (b.mono hB.size))
  obtain ⟨⟨p0, p1, p2, p3⟩, _⟩ := bF.four
  go_wp2_with fail; refine (fits11_any mi mb nx l base p data _ _ nV).mono ?_; rintro e w2 ⟨rfl, b2⟩
  (replace bF := bF.next b2; replace nV := nV.below b2; replace hB := hB.trans (b2.mono hB.size))
  rw [hf]
  clear b b2 p0 p1 p2 p3
  obtain ⟨⟨p0, p1, p2, p3⟩, _⟩ := bF.four
  go_wp2_with fail; refine (hSk _ nV).mono ?_; rintro e w3 ⟨rfl, b3⟩
  have s3 := alloc_below w3 (.cells (spC ⟨sd, sn, si⟩) 37)
  have bS := Blk.new w3 37 (spC ⟨sd, sn, si⟩)
  (replace bF := bF.next b3; replace nV := nV.below b3; replace hB := hB.trans (b3.mono hB.size))
  (replace bF := bF.next s3; replace nV := nV.below s3; replace hB := hB.trans (s3.mono hB.size))
  clear b3 s3 p0 p1 p2 p3 hSk
  obtain ⟨⟨s0, s1, s2⟩, _⟩ := bS.three
  dsimp only at s0 s1 s2
  by_cases her : er = 0
  · subst her
    by_cases hsi : si = 0
    · subst hsi
      have hg := hgood rfl
      have hdir : isDir l sd = true := by
        by_cases hn0 : sn = []
        · have h1 := (dir_parts (hg.bare hn0).1).1
          dsimp only at h1
          rw [no_zero hok] at h1; cases h1
        · exact (hg.entry hn0).1
      have hC := fun k d (hd : d.length ≤ 5000) W hW => New_any mi mb nx k l ⟨sd, sn, 0⟩ d (.slice a l.length ca) W hW hok hnx hdir (by omega) hsn
      have hcg := calm_get (calm_of hok) sd
      have hft := fit_of hok
      have hR := fun k d (hd : d.length ≤ 5000) W hW => refNew_any mi mb nx k l ⟨sd, sn, 0⟩ d (.slice a l.length ca) W hW hft.calm.rise ((rightB_iff _).1 hcg.1).2 hcg.2.1 (by have := hft.few; omega) hft.bytes (by omega) (by dsimp only at hsn ⊢; omega) (nx_fit hok hnx)
      have hK := fun k d => newF_key mi mb nx l ⟨sd, sn, 0⟩ k d
      clear hgood hg hdir hcg hft
      go_upto_region 6 with fail
      generalize w3.alloc (.cells #[.int .i64 sd, .string ⟨sn.toArray⟩, .int .i64 0] 37) = w4 at *
      go_cut [13] from 43 to 46 (fun s13 wc => wc = w4 ∧ ∃ K : Int, s13 = .int .i64 K)
      case first =>
        rcases (show kd % 3 = 0 ∨ kd % 3 = 1 ∨ kd % 3 = 2 by omega) with h3 | h3 | h3
        · have hk3 : (kd : Int) % 3 = 0 := by omega
          have hk4 : (kd : Int).tmod 3 = 0 := by rw [Int.tmod_eq_emod_of_nonneg (by omega)]; exact hk3
          go_wp2_with fail
          go_meet
          exact ⟨rfl, 1, rfl⟩
        · have hk3 : (kd : Int) % 3 = 1 := by omega
          have hk4 : (kd : Int).tmod 3 = 1 := by rw [Int.tmod_eq_emod_of_nonneg (by omega)]; exact hk3
          go_wp2_with fail
          go_meet
          exact ⟨rfl, 2, rfl⟩
        · have hk3 : (kd : Int) % 3 = 2 := by omega
          have hk4 : (kd : Int).tmod 3 = 2 := by rw [Int.tmod_eq_emod_of_nonneg (by omega)]; exact hk3
          go_wp2_with fail
          go_meet
          exact ⟨rfl, 3, rfl⟩
      case rest =>
      obtain ⟨hwc, K, rfl⟩ := hcut
      subst hwc
      rename World => w4
      go_upto_if 48 with (fail)
      go_cut [4] from 47 to 48 (fun s4 wc => wc = w4 ∧ ∃ D : List UInt8, s4 = .string ⟨D.toArray⟩ ∧ Aside (D.length ≤ 5000))
      case first =>
        by_cases hK2 : K = 2
        · subst hK2
          go_wp2_with fail
          go_meet
          exact ⟨rfl, [], rfl, Nat.zero_le _⟩
        · go_wp2_with fail
          go_meet
          exact ⟨rfl, data, rfl, hdl⟩
      case rest =>
      obtain ⟨hwc, D0, rfl, HD0⟩ := hcut
      subst hwc
      rename World => w4
      go_upto_if 50 with (fail)
      go_cut [4] from 49 to 50 (fun s4 wc => wc = w4 ∧ ∃ D : List UInt8, s4 = .string ⟨D.toArray⟩ ∧ Aside (D.length ≤ 5000))
      case first =>
        by_cases hK3 : K = 3
        · subst hK3
          go_wp2_with fail
          go_meet
          exact ⟨rfl, [116], rfl, show [116].length ≤ 5000 by decide⟩
        · go_wp2_with fail
          go_meet
          exact ⟨rfl, D0, rfl, HD0.out⟩
      case rest =>
      obtain ⟨hwc, D, rfl, HD⟩ := hcut
      subst hwc
      rename World => w4
      replace hC := hC K D HD.out
      replace hR := hR K D HD.out
      replace hK := hK K D
      generalize newF mi mb nx l ⟨sd, sn, 0⟩ K D = R at *
      clear s0 s1 s2
      obtain ⟨⟨p0, p1, p2, p3⟩, _⟩ := bF.four
      obtain ⟨⟨s0, s1, s2⟩, _⟩ := bS.three
      dsimp only at s0 s1 s2
      go_wp2_with fail
      refine (hC _ nV).mono ?_
      rintro e w5 ⟨y1, e1, rfl, hM1, b5⟩
      have n1 := hM1.now nV b5
      have hk := fun e2 => hK e1 e2
      generalize R e1 = Z1 at *
      obtain ⟨⟨z1, L1⟩, q1⟩ := Z1
      dsimp only at n1 hk
      obtain ⟨a1, c1, rfl⟩ := nds_slice n1
      have s5 := alloc_below w5 (.cells (fsC mi mb z1 (.slice a1 L1.length c1)) 24)
      have bA := Blk.new w5 24 (fsC mi mb z1 (.slice a1 L1.length c1))
      replace n1 := n1.below s5
      have b6 := b5.trans (s5.mono b5.size)
      replace bS := bS.next b6
      (replace bF := bF.next b6; replace nV := nV.below b6; replace hB := hB.trans (b6.mono hB.size))
      clear b5 s5 b6 p0 p1 p2 p3 s0 s1 s2 hM1 hC hK
      obtain ⟨⟨p0, p1, p2, p3⟩, _⟩ := bF.four
      obtain ⟨⟨s0, s1, s2⟩, _⟩ := bS.three
      dsimp only at s0 s1 s2
      go_wp2_with fail
      refine (hR _ nV).mono ?_
      rintro e w6 ⟨y2, e2, rfl, hM2, b6⟩
      have n2 := hM2.now nV b6
      replace hk := hk e2
      generalize R e2 = Z2 at *
      obtain ⟨⟨z2, L2⟩, q2⟩ := Z2
      dsimp only at n2 hk
      obtain ⟨a2, c2, rfl⟩ := nds_slice n2
      have s6 := alloc_below w6 (.cells (fsC mi mb z2 (.slice a2 L2.length c2)) 24)
      have bC := Blk.new w6 24 (fsC mi mb z2 (.slice a2 L2.length c2))
      have b7 := b6.trans (s6.mono b6.size)
      replace n2 := n2.below s6
      replace n1 := n1.below b7
      replace bA := bA.next b7
      (replace bF := bF.next b7; replace nV := nV.below b7; replace hB := hB.trans (b7.mono hB.size))
      clear b6 s6 b7 p0 p1 p2 p3 s0 s1 s2 hM2 hR
      obtain ⟨rfl, rfl, hO⟩ := hk
      have hT := tab_ones (mi := mi) (mb := mb) (nx := z1) hO
      have hSm := refTab_any mi mb z1 mi mb z1 L1 L2 _ _ _ n1 n2
      rw [hT] at hSm
      obtain ⟨⟨f0, f1, f2, f3⟩, _⟩ := bA.four
      obtain ⟨⟨g0, g1, g2, g3⟩, _⟩ := bC.four
      go_wp2_with fail
      refine hSm.mono ?_
      rintro e w7 ⟨rfl, b7⟩
      go_wp2
      go_ret
      exact ⟨rfl, hB.trans (b7.mono hB.size)⟩
    · have hsi2 : (si != 0) = true := by simpa using hsi
      go_wp2
      go_ret
      exact ⟨rfl, hB⟩
  · have her2 : (er != 0) = true := by simpa using her
    go_wp2
    go_ret
    exact ⟨rfl, hB⟩

namespace LMakeNews
set_option maxRecDepth 100000 in
theorem lifted (os : Os) (started : os.Started) (H : Type) (enc : TypeId × Value → H) :
    ReturnsInHanded {} Tryz.checked os 6 .any (Rows.makeNewsSpec.pre6 enc Tryz.prog Tryz.f6 Rows.makeNewsRow.domain false) (Rows.makeNewsSpec.post enc Tryz.prog Tryz.f6 false true false false) := by
  refine returnsInHanded_of_change (C := Tryz.checked) (by kernel_rfl) started (by kernel_rfl) Tryz.func6
    (ChangeSpec.witness6 (enc := enc) (C := Tryz.checked) false ⟨#[], #[.agg #[.int .i64 0, .int .i64 0, .int .i64 0, .slice none 0 0], .string ByteArray.empty, .string ByteArray.empty, .int .u8 0, .string ByteArray.empty], []⟩ 8 (by kernel_rfl) (by kernel_rfl) (by kernel_rfl) (by kernel_rfl)) ?_
  intro W base args ds gs before hval0 hW hcnd _
  have hval : ∀ (j : Nat) t v, Tryz.f6.params[j]? = some t → args[j]? = some v → Value.okWide Tryz.prog W .any base t v := hval0
  have hW' := hW
  obtain ⟨p, q, hA0, hV, rfl, hfz, hnd⟩ := hW
  have hA : DataW.TrodAll enc Tryz.prog W 0 (fun _ => true) true Tryz.f6.params.toList args.toList ds p := hA0
  rw [Tryz.params6] at hA hval
  obtain ⟨v0, vs0, d0, ds0, p0, q0, hargs, rfl, rfl, k0, r0⟩ := trodAll_cons hA
  obtain ⟨v1, vs1, d1, ds1, p1, q1, rfl, rfl, rfl, k1, r1⟩ := trodAll_cons r0
  obtain ⟨v2, vs2, d2, ds2, p2, q2, rfl, rfl, rfl, k2, r2⟩ := trodAll_cons r1
  obtain ⟨v3, vs3, d3, ds3, p3, q3, rfl, rfl, rfl, k3, r3⟩ := trodAll_cons r2
  obtain ⟨v4, vs4, d4, ds4, p4, q4, rfl, rfl, rfl, k4, r4⟩ := trodAll_cons r3
  obtain ⟨rfl, rfl, rfl⟩ := trodAll_nil r4
  obtain rfl : args = #[v0, v1, v2, v3, v4] := by cases args; simp_all
  obtain ⟨rfl, rfl⟩ := trodVars_none hV
  have ok0 := hval 0 24 v0 rfl rfl
  have ok1 := hval 1 9 v1 rfl rfl
  have ok2 := hval 2 9 v2 rfl rfl
  have ok3 := hval 3 5 v3 rfl rfl
  have ok4 := hval 4 9 v4 rfl rfl
  have lt0 : ∀ x ∈ p0, x.block < W.heap.size := by obtain ⟨m, hm⟩ := k0; exact DataW.trod_lt m _ _ _ hm
  have lt1 : ∀ x ∈ p1, x.block < W.heap.size := by obtain ⟨m, hm⟩ := k1; exact DataW.trod_lt m _ _ _ hm
  have lt2 : ∀ x ∈ p2, x.block < W.heap.size := by obtain ⟨m, hm⟩ := k2; exact DataW.trod_lt m _ _ _ hm
  have lt3 : ∀ x ∈ p3, x.block < W.heap.size := by obtain ⟨m, hm⟩ := k3; exact DataW.trod_lt m _ _ _ hm
  have lt4 : ∀ x ∈ p4, x.block < W.heap.size := by obtain ⟨m, hm⟩ := k4; exact DataW.trod_lt m _ _ _ hm
  have C : Calls Tryz.prog 6 #[v0, v1, v2, v3, v4] W fun e w' => e = .returned (.bool true) ∧ Below W.heap.size W w' := by
    clear hA0 hval0 hval hW' hcnd hV hfz hnd
    obtain ⟨mi, mb, nx, x, l, rfl, hx⟩ := fs_of_trod k0 ok0
    obtain ⟨s, rfl, rfl, rfl, hs⟩ := open_string Tryz.underlying9 ok1 k1
    obtain ⟨s2, rfl, rfl, rfl, hs2⟩ := open_string Tryz.underlying9 ok2 k2
    obtain ⟨t, rfl, rfl, rfl, ht⟩ := open_int Tryz.underlying5 ok3 k3
    obtain ⟨s3, rfl, rfl, rfl, hs3⟩ := open_string Tryz.underlying9 ok4 k4
    rw [str_eta s, str_eta s2, str_eta s3]
    have hb := bounds_u8 ht
    obtain ⟨n, rfl⟩ := Int.eq_ofNat_of_zero_le hb.1
    exact lawNews11 mi mb nx l _ _ _ n (by omega) x W hx
  refine C.mono fun e W' ⟨he, bel⟩ => ?_
  subst he
  exact ⟨_, rfl, _, _, _, [], _, [], hW', trodAll_mk1 (shut_bool Tryz.underlying4 _), (trodAll_cons_mk (Below.trod laidOut (by kernel_rfl) (of_decide_eq_true (by kernel_rfl)) k0 bel lt0) (trodAll_cons_mk (Below.trod laidOut (by kernel_rfl) (of_decide_eq_true (by kernel_rfl)) k1 bel lt1) (trodAll_cons_mk (Below.trod laidOut (by kernel_rfl) (of_decide_eq_true (by kernel_rfl)) k2 bel lt2) (trodAll_cons_mk (Below.trod laidOut (by kernel_rfl) (of_decide_eq_true (by kernel_rfl)) k3 bel lt3) (trodAll_cons_mk (Below.trod laidOut (by kernel_rfl) (of_decide_eq_true (by kernel_rfl)) k4 bel lt4) trodAll_mk0))))), rfl, bel.frame _, fun h => by cases h⟩
theorem proved : Rows.MakeNewsSaid :=
  OpenClaim.holds_of_wide 6 Tryz.f6 rfl rfl rfl rfl rfl rfl rfl ⟨rfl, rfl, rfl, rfl, rfl⟩ rfl rfl rfl rfl rfl (by kernel_rfl) Tryz.func6 (by kernel_rfl)
    (of_decide_eq_true (by kernel_rfl)) (by unfold Func.isWrapper; first | (rw [if_pos (by decide +kernel)]; kernel_rfl) | (rw [if_neg (by decide +kernel)]; exact ⟨rfl, rfl⟩))
    (fun os started H enc _ => lifted os started H enc)
#print axioms proved
end LMakeNews
end Go.Proofs.YtobepdmpacdakaaGreat
