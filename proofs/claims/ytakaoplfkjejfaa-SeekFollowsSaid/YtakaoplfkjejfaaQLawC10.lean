/- For every sound file system, base and path that are short: what package seek follows to its end is no link, is told with its entry, or with the directory and the name where nothing is (no condition). -/
import Derived.Test.YtakaoplfkjejfaaQLawB10
import Derived.BigQuiet
namespace Go.Proofs.Ytakaoplfkjejfaa
open Go.ChangeShapes Go.WideShapes Go.ChangeAt Go.RowKit
open Go.ChangeMaps (open_string shut_string)
set_option linter.unusedVariables false

set_option maxHeartbeats 8000000 in
set_option maxRecDepth 100000 in
theorem lawFollows10 (mi mb nx : Int) (l : List Nd) (base name : List UInt8) (v : Value) (w : World) (hv : Nds w v l) :
    Calls Try.prog 5 #[.agg (fsC mi mb nx v), .string ⟨base.toArray⟩, .string ⟨name.toArray⟩] w fun e w' => e = .returned (.bool true) ∧ Below w.heap.size w w' := by
  obtain ⟨a, ca, rfl⟩ := nds_slice hv
  have bF := Blk.new w 24 (fsC mi mb nx (.slice a l.length ca))
  have hB := alloc_below w (.cells (fsC mi mb nx (.slice a l.length ca)) 24)
  have nV := hv.below hB
  have HV := Lib.hid hv
  clear hv
  cases hok : okB mi mb nx l
  · go_enter Try.func5, Try.ntmps5
    go_wp2_with fail; refine (awake10 _).mono ?_; rintro e w1 ⟨rfl, b⟩
    (replace bF := bF.next b; replace nV := nV.below b; replace hB := hB.trans (b.mono hB.size))
    obtain ⟨⟨p0, p1, p2, p3⟩, _⟩ := bF.four
    go_wp2_with fail; refine (refOk_any mi mb nx l _ _ nV).mono ?_; rintro e w2 ⟨rfl, b2⟩
    (replace bF := bF.next b2; replace nV := nV.below b2; replace hB := hB.trans (b2.mono hB.size))
    rw [hok]
    go_wp2_with fail; refine (awake10 _).mono ?_; rintro e w3 ⟨rfl, b3⟩
    go_wp2
    go_ret
    exact ⟨rfl, hB.trans (b3.mono hB.size)⟩
  cases hsh : shortB l base name
  · go_enter Try.func5, Try.ntmps5
    go_wp2_with fail; refine (awake10 _).mono ?_; rintro e w1 ⟨rfl, b⟩
    (replace bF := bF.next b; replace nV := nV.below b; replace hB := hB.trans (b.mono hB.size))
    obtain ⟨⟨p0, p1, p2, p3⟩, _⟩ := bF.four
    go_wp2_with fail; refine (refOk_any mi mb nx l _ _ nV).mono ?_; rintro e w2 ⟨rfl, b2⟩
    (replace bF := bF.next b2; replace nV := nV.below b2; replace hB := hB.trans (b2.mono hB.size))
    rw [hok]
    clear p0 p1 p2 p3
    obtain ⟨⟨p0, p1, p2, p3⟩, _⟩ := bF.four
    go_wp2_with fail; refine (refShort_any mi mb nx l base name _ _ nV).mono ?_; rintro e w4 ⟨rfl, b4⟩
    (replace bF := bF.next b4; replace nV := nV.below b4; replace hB := hB.trans (b4.mono hB.size))
    rw [hsh]
    go_wp2_with fail; refine (awake10 _).mono ?_; rintro e w3 ⟨rfl, b3⟩
    go_wp2
    go_ret
    exact ⟨rfl, hB.trans (b3.mono hB.size)⟩
  obtain ⟨hbl, hnl⟩ := short_parts hsh
  have hfine := seek_good hok base name
  have hno := no_zero hok
  have tr := tree_of hok
  have hCS := fun W (hW : Nds W (.slice a l.length ca) l) => Seek_any mi mb nx l base name true _ W hW hok (by omega) (by omega)
  generalize seekP l base name true = Q at *
  obtain ⟨⟨qa, qb, qc⟩, qe⟩ := Q
  dsimp only at hCS
  go_enter Try.func5, Try.ntmps5
  go_wp2_with fail; refine (awake10 _).mono ?_; rintro e w1 ⟨rfl, b1⟩
  (replace bF := bF.next b1; replace nV := nV.below b1; replace hB := hB.trans (b1.mono hB.size))
  obtain ⟨⟨p0, p1, p2, p3⟩, _⟩ := bF.four
  go_wp2_with fail; refine (refOk_any mi mb nx l _ _ nV).mono ?_; rintro e w2 ⟨rfl, b2⟩
  (replace bF := bF.next b2; replace nV := nV.below b2; replace hB := hB.trans (b2.mono hB.size))
  rw [hok]
  clear p0 p1 p2 p3
  obtain ⟨⟨p0, p1, p2, p3⟩, _⟩ := bF.four
  go_wp2_with fail; refine (refShort_any mi mb nx l base name _ _ nV).mono ?_; rintro e w4 ⟨rfl, b4⟩
  (replace bF := bF.next b4; replace nV := nV.below b4; replace hB := hB.trans (b4.mono hB.size))
  rw [hsh]
  clear p0 p1 p2 p3
  obtain ⟨⟨p0, p1, p2, p3⟩, _⟩ := bF.four
  go_wp2_with fail; refine (hCS _ nV).mono ?_; rintro e w6 ⟨rfl, b6⟩
  have s6 := alloc_below w6 (.cells (spC ⟨qa, qb, qc⟩) 38)
  have bA := Blk.new w6 38 (spC ⟨qa, qb, qc⟩)
  (replace bF := bF.next b6; replace nV := nV.below b6; replace hB := hB.trans (b6.mono hB.size))
  (replace bF := bF.next s6; replace nV := nV.below s6; replace hB := hB.trans (s6.mono hB.size))
  clear b1 b2 b4 b6 s6 p0 p1 p2 p3 hCS
  obtain ⟨⟨a0, a1, a2⟩, _⟩ := bA.three
  dsimp only at a0 a1 a2
  by_cases he : qe = 0
  · subst he
    have hgood := hfine.1 rfl
    clear hfine
    have hG := refGetT_any mi mb nx qc l _ _ nV
    obtain ⟨ag, ng, cg, hgs⟩ := get_slice nV qc
    by_cases hqb : qb = []
    · subst hqb
      obtain ⟨h1, h2⟩ := hgood.bare rfl
      obtain ⟨h3, h4⟩ := dir_parts h1
      dsimp only at h2 h3 h4
      subst h2
      rw [h3] at hG
      generalize getN l qc = G at *
      obtain ⟨gi, gk, gl, gd, gp, ge, gn⟩ := G
      dsimp only at hgs h4 hG
      subst hgs h4
      clear hgood h1 h3 hno tr
      obtain ⟨⟨p0, p1, p2, p3⟩, _⟩ := bF.four
      go_wp2_with fail
      refine hG.mono ?_
      rintro e w7 ⟨rfl, b7⟩
      have s7 := alloc_below w7 (.cells (ndC ⟨gi, 2, gl, gd, gp, .slice ag ng cg, gn⟩) 34)
      have bX := Blk.new w7 34 (ndC ⟨gi, 2, gl, gd, gp, .slice ag ng cg, gn⟩)
      replace bA := (bA.next b7).next s7
      (replace bF := bF.next b7; replace nV := nV.below b7; replace hB := hB.trans (b7.mono hB.size))
      (replace bF := bF.next s7; replace nV := nV.below s7; replace hB := hB.trans (s7.mono hB.size))
      clear b7 s7 p0 p1 p2 p3 a0 a1 a2
      obtain ⟨⟨a0, a1, a2⟩, _⟩ := bA.three
      obtain ⟨⟨x0, x1, x2, x3, x4, x5⟩, _⟩ := bX.six
      dsimp only at a0 a1 a2 x0 x1 x2 x3 x4 x5
      go_wp2
      go_ret
      exact ⟨rfl, hB⟩
    · obtain ⟨h1, h2, h3, h4⟩ := hgood.entry hqb
      dsimp only at h1 h2 h3 h4
      obtain ⟨h5, h6⟩ := dir_parts h1
      have hqn : (qb == []) = false := by simpa using hqb
      have hlast := lastB_num (ents_pair tr qa) qb
      rw [h2] at hlast
      have hED := get_ents nV.all qa
      have hs0 : qc = 0 → hasN l qc = false := fun h => by rw [h]; exact hno
      have hG2 := fun W (hW : Nds W (.slice a l.length ca) l) => refGetT_any mi mb nx qa l _ W hW
      rw [h5] at hG2
      obtain ⟨ad, nd, cd, hds⟩ := get_slice nV qa
      generalize hasN l qc = hs at *
      have HS0 := Lib.hid (show _ ∧ _ from ⟨hs0, h3⟩)
      clear hgood h1 h2 h3 h5 hs0 hno tr hqb
      generalize getN l qc = G at *
      generalize getN l qa = D at *
      obtain ⟨gi, gk, gl, gd, gp, ge, gn⟩ := G
      obtain ⟨di, dk, dl, dd, dp, de, dn⟩ := D
      dsimp only at hgs hds h4 h6 hG hG2 hED hlast
      subst hgs hds h6
      obtain ⟨ad2, cd2, hds2, hE1, hE2, hE3⟩ := id hED
      simp only [Value.slice.injEq] at hds2
      obtain ⟨rfl, rfl, rfl⟩ := hds2
      unfold maxLen at hE2
      have HE := Lib.hid hE3
      have HL := Lib.hid hlast
      have hB0 := (Below.refl w.heap.size w).trans hB
      clear hE3 hlast
      generalize hwA : w6.alloc (.cells #[.int .i64 qa, .string ⟨qb.toArray⟩, .int .i64 qc] 38) = wA at *
      obtain ⟨⟨p0, p1, p2, p3⟩, _⟩ := bF.four
      go_wp2_with fail
      refine hG.mono ?_
      rintro e w7 ⟨rfl, b7⟩
      have s7 := alloc_below w7 (.cells (ndC ⟨gi, gk, gl, gd, gp, .slice ag ng cg, gn⟩) 34)
      have bX := Blk.new w7 34 (ndC ⟨gi, gk, gl, gd, gp, .slice ag ng cg, gn⟩)
      have bW := b7.trans (s7.mono b7.size)
      replace bA := (bA.next b7).next s7
      (replace bF := bF.next b7; replace nV := nV.below b7; replace hB := hB.trans (b7.mono hB.size))
      (replace bF := bF.next s7; replace nV := nV.below s7; replace hB := hB.trans (s7.mono hB.size))
      clear b7 s7 p0 p1 p2 p3 a0 a1 a2 hG
      obtain ⟨⟨a0, a1, a2⟩, _⟩ := bA.three
      obtain ⟨⟨x0, x1, x2, x3, x4, x5⟩, _⟩ := bX.six
      dsimp only at a0 a1 a2 x0 x1 x2 x3 x4 x5
      obtain ⟨⟨p0, p1, p2, p3⟩, _⟩ := bF.four
      go_wp2_with fail
      refine (hG2 _ nV).mono ?_
      rintro e w8 ⟨rfl, b8⟩
      have s8 := alloc_below w8 (.cells (ndC ⟨di, 2, dl, dd, dp, .slice ad dn.length cd, dn⟩) 34)
      have bD := Blk.new w8 34 (ndC ⟨di, 2, dl, dd, dp, .slice ad dn.length cd, dn⟩)
      replace bW := (bW.trans (b8.mono bW.size)).trans (s8.mono (bW.trans (b8.mono bW.size)).size)
      replace bA := (bA.next b8).next s8
      replace bX := (bX.next b8).next s8
      (replace bF := bF.next b8; replace nV := nV.below b8; replace hB := hB.trans (b8.mono hB.size))
      (replace bF := bF.next s8; replace nV := nV.below s8; replace hB := hB.trans (s8.mono hB.size))
      clear b8 s8 p0 p1 p2 p3 a0 a1 a2 hG2 x0 x1 x2 x3 x4 x5
      obtain ⟨⟨a0, a1, a2⟩, _⟩ := bA.three
      obtain ⟨⟨x0, x1, x2, x3, x4, x5⟩, _⟩ := bX.six
      obtain ⟨⟨y0, y1, y2, y3, y4, y5⟩, _⟩ := bD.six
      dsimp only at a0 a1 a2 x0 x1 x2 x3 x4 x5 y0 y1 y2 y3 y4 y5
      have hk3 : (gk == 3) = false := by simpa using h4
      go_upto_region 10 with fail
      generalize w8.alloc (.cells #[.int .i64 di, .int .i64 2, .int .i64 dl, .string ⟨dd.toArray⟩, .int .i64 dp, .slice ad dn.length cd] 34) = w9 at *
      go_cut [91] from 70 to 90 (fun s91 wc => wc = w9 ∧ s91 = .bool false)
      case first =>
        by_cases h0 : qc = 0
        · have h1 := HS0.out.1 h0
          subst h0 h1
          go_wp2_with fail
          go_meet
          exact ⟨rfl, rfl⟩
        · have h1 := HS0.out.2 h0
          subst h1
          have hq0 : (qc != 0) = true := by simpa using h0
          go_wp2_with fail
          go_meet
          exact ⟨rfl, rfl⟩
      case rest =>
        obtain ⟨hwc, rfl⟩ := hcut
        subst hwc
        rename World => w9
        have HA := Lib.hid bA
        have HD := Lib.hid bD
        clear bA bD bX a0 a1 a2 x0 x1 x2 x3 x4 x5 y0 y1 y2 y3 y4 y5 hk3 HS0
        go_wp2
        go_loopw [13, 14] (fun s13 s14 wr => ∃ k : Nat, k ≤ dn.length ∧ s14 = .int .i64 k ∧ s13 = .int .i64 (lastB (dn.take k) qb) ∧ Below w9.heap.size w9 wr) (fun _ s14 _ => dn.length - (intOf s14).toNat)
        case atStart => exact ⟨0, Nat.zero_le _, rfl, rfl, Below.refl _ _⟩
        case round =>
          obtain ⟨k, hk, rfl, rfl, hbw⟩ := hrel
          obtain ⟨⟨a0, a1, a2⟩, _⟩ := (HA.out.next hbw).three
          obtain ⟨⟨y0, y1, y2, y3, y4, y5⟩, _⟩ := (HD.out.next hbw).six
          dsimp only at a0 a1 a2 y0 y1 y2 y3 y4 y5
          by_cases hlt : k < dn.length
          · obtain ⟨be, oe, rfl, hbe, hce⟩ := HE.out (by omega)
            have hbb := bW.trans (hbw.mono bW.size)
            have c0 := (hbb.cell (p := ⟨be, oe + k * 2, none⟩) hbe).trans (hce k hlt).1
            have c1 := (hbb.cell (p := ⟨be, oe + k * 2 + 1, none⟩) hbe).trans (hce k hlt).2
            have hnx := lastB_next (n := qb) hlt
            have hbq : ∀ q, Below w9.heap.size w9 (wr.drewN q) := fun q => below_drewN hbw q
            clear hce
            generalize dn[k] = en at *
            obtain ⟨en1, en2⟩ := en
            dsimp only at c0 c1 hnx
            have k0 : (0 : Int) ≤ (k : Int) := by omega
            have k1 : (k : Int) < (dn.length : Int) := by omega
            have c1q : ∀ q, (wr.drewN q).cell? ⟨be, oe + k * 2 + 1, none⟩ = some (.int .i64 en2) := fun q => ((below_drewN hbb q).cell (p := ⟨be, oe + k * 2 + 1, none⟩) hbe).trans (((hbb.cell (p := ⟨be, oe + k * 2 + 1, none⟩) hbe).symm).trans c1)
            cases hen : (en1 == qb)
            · rw [hen] at hnx
              have HNX := Lib.hid hnx
              clear hnx
              go_wp2
              go_quiet (fail)
              go_wp2
              go_roundw
              case rel => exact ⟨k + 1, by omega, by go_num, by rw [HNX.out]; rfl, hbq _⟩
              case measure => simp [intOf]; omega
            · rw [hen] at hnx
              have HNX := Lib.hid hnx
              clear hnx
              go_wp2
              go_quiet (fail)
              go_wp2
              go_roundw
              case rel => exact ⟨k + 1, by omega, by go_num, by rw [HNX.out]; rfl, hbq _⟩
              case measure => simp [intOf]; omega
          · obtain rfl : k = dn.length := by omega
            rw [List.take_length]
            have hL := HL.out
            generalize lastB dn qb = z at *
            subst hL
            go_wp2
            go_ret
            exact ⟨rfl, hB.trans (hbw.mono hB.size)⟩
  · obtain ⟨rfl, rfl, rfl⟩ : qa = 0 ∧ qb = [] ∧ qc = 0 := by
      have := hfine.2 he
      simpa using this
    go_wp2
    go_ret
    exact ⟨rfl, hB⟩

namespace LSeekFollows
set_option maxRecDepth 100000 in
theorem lifted (os : Os) (started : os.Started) (H : Type) (enc : TypeId × Value → H) :
    ReturnsInHanded {} Try.checked os 5 .any (Rows.seekFollowsSpec.pre6 enc Try.prog Try.f5 Rows.seekFollowsRow.domain false) (Rows.seekFollowsSpec.post enc Try.prog Try.f5 false true false false) := by
  refine returnsInHanded_of_change (C := Try.checked) (by kernel_rfl) started (by kernel_rfl) Try.func5
    (ChangeSpec.witness6 (enc := enc) (C := Try.checked) false ⟨#[], #[.agg #[.int .i64 0, .int .i64 0, .int .i64 0, .slice none 0 0], .string ByteArray.empty, .string ByteArray.empty], []⟩ 8 (by kernel_rfl) (by kernel_rfl) (by kernel_rfl) (by kernel_rfl)) ?_
  intro W base args ds gs before hval0 hW hcnd _
  have hval : ∀ (j : Nat) t v, Try.f5.params[j]? = some t → args[j]? = some v → Value.okWide Try.prog W .any base t v := hval0
  have hW' := hW
  obtain ⟨p, q, hA0, hV, rfl, hfz, hnd⟩ := hW
  have hA : DataW.TrodAll enc Try.prog W 0 (fun _ => true) true Try.f5.params.toList args.toList ds p := hA0
  rw [Try.params5] at hA hval
  obtain ⟨v0, vs0, d0, ds0, p0, q0, hargs, rfl, rfl, k0, r0⟩ := trodAll_cons hA
  obtain ⟨v1, vs1, d1, ds1, p1, q1, rfl, rfl, rfl, k1, r1⟩ := trodAll_cons r0
  obtain ⟨v2, vs2, d2, ds2, p2, q2, rfl, rfl, rfl, k2, r2⟩ := trodAll_cons r1
  obtain ⟨rfl, rfl, rfl⟩ := trodAll_nil r2
  obtain rfl : args = #[v0, v1, v2] := by cases args; simp_all
  obtain ⟨rfl, rfl⟩ := trodVars_none hV
  have ok0 := hval 0 24 v0 rfl rfl
  have ok1 := hval 1 9 v1 rfl rfl
  have ok2 := hval 2 9 v2 rfl rfl
  have lt0 : ∀ x ∈ p0, x.block < W.heap.size := by obtain ⟨m, hm⟩ := k0; exact DataW.trod_lt m _ _ _ hm
  have lt1 : ∀ x ∈ p1, x.block < W.heap.size := by obtain ⟨m, hm⟩ := k1; exact DataW.trod_lt m _ _ _ hm
  have lt2 : ∀ x ∈ p2, x.block < W.heap.size := by obtain ⟨m, hm⟩ := k2; exact DataW.trod_lt m _ _ _ hm
  have C : Calls Try.prog 5 #[v0, v1, v2] W fun e w' => e = .returned (.bool true) ∧ Below W.heap.size W w' := by
    clear hA0 hval0 hval hW' hcnd hV hfz hnd
    obtain ⟨mi, mb, nx, x, l, rfl, hx⟩ := fs_of_trod k0 ok0
    obtain ⟨s, rfl, rfl, rfl, hs⟩ := open_string Try.underlying9 ok1 k1
    obtain ⟨s2, rfl, rfl, rfl, hs2⟩ := open_string Try.underlying9 ok2 k2
    rw [str_eta s, str_eta s2]
    exact lawFollows10 mi mb nx l _ _ x W hx
  refine C.mono fun e W' ⟨he, bel⟩ => ?_
  subst he
  exact ⟨_, rfl, _, _, _, [], _, [], hW', trodAll_mk1 (shut_bool Try.underlying4 _), (trodAll_cons_mk (Below.trod laidOut (by kernel_rfl) (of_decide_eq_true (by kernel_rfl)) k0 bel lt0) (trodAll_cons_mk (Below.trod laidOut (by kernel_rfl) (of_decide_eq_true (by kernel_rfl)) k1 bel lt1) (trodAll_cons_mk (Below.trod laidOut (by kernel_rfl) (of_decide_eq_true (by kernel_rfl)) k2 bel lt2) trodAll_mk0))), rfl, bel.frame _, fun h => by cases h⟩
theorem proved : Rows.SeekFollowsSaid :=
  OpenClaim.holds_of_wide 5 Try.f5 rfl rfl rfl rfl rfl rfl rfl ⟨rfl, rfl, rfl, rfl, rfl⟩ rfl rfl rfl rfl rfl (by kernel_rfl) Try.func5 (by kernel_rfl)
    (of_decide_eq_true (by kernel_rfl)) (by unfold Func.isWrapper; first | (rw [if_pos (by decide +kernel)]; kernel_rfl) | (rw [if_neg (by decide +kernel)]; exact ⟨rfl, rfl⟩))
    (fun os started H enc _ => lifted os started H enc)
#print axioms proved
end LSeekFollows
end Go.Proofs.Ytakaoplfkjejfaa
