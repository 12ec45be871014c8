/- For every sound file system, and a base, a place of the walk and a name that are short: package seek leads a plain path on which no link stands where the plain way does (no condition). -/
import Derived.Test.YtakaoplfkjejfaaQAwakeB10
import Derived.Test.YtakaoplfkjejfaaQWalkF07
import Derived.Test.YtakaoplfkjejfaaQWalkB08
import Derived.Laws.StructEq
import Derived.Test.YtakaoplfkjejfaaQLawBase05
namespace Go.Proofs.Ytakaoplfkjejfaa
open Go.ChangeShapes Go.WideShapes Go.ChangeAt Go.RowKit
open Go.ChangeMaps (open_string shut_string)
set_option linter.unusedVariables false

/-- What the statements need of the walk. -/
structure Lead10 (l : List Nd) (L : List Ent) : Prop where
  few : L.length ≤ 1601
  pos : 0 < L.length
  short : ∀ q ∈ L, q.1.length ≤ 20000
  at_ : ∀ k (h : k < L.length), ∃ ns s, ns.all mayB = true ∧ L[k].1 = joinB ns ∧ Ends l rootS s ns L[k].2
theorem lead10_of {mi mb nx : Int} {l : List Nd} (h : okB mi mb nx l = true) : Lead10 l (listN l) := by
  have t := tree_of h
  obtain ⟨f1, f2, f3⟩ := few_ents (ok_parts h).1
  refine ⟨by rw [list_exact t]; omega, by rw [list_exact t]; omega, ?_, fun k hk => ?_⟩
  · intro q hq
    have := below_paths f3 (l.length + 1) 1 [47] q hq
    simp at this
    omega
  · obtain ⟨ns, s, h1, h2, h3, _⟩ := list_at t hk
    exact ⟨ns, s, h1, h2, h3⟩
theorem data_few {mi mb nx : Int} {l : List Nd} (h : okB mi mb nx l = true) : ∀ i, (getN l i).data.length ≤ 5000 := fun i => (calm_get (calm_of h) i).2.2.1
theorem short_parts {l : List Nd} {base p : List UInt8} (h : shortB l base p = true) : base.length ≤ 1000 ∧ p.length ≤ 5000 := by
  unfold shortB at h
  rw [Bool.and_eq_true, Bool.and_eq_true, decide_eq_true_eq, decide_eq_true_eq] at h
  exact ⟨h.1.2, h.2⟩
theorem join_more {ns : List (List UInt8)} (h : ns.all mayB = true) (hne : joinB ns ≠ [47]) (n : List UInt8) : joinB ns ++ [47] ++ n = joinB (ns ++ [n]) := by
  rw [← under_join (mayB_all h) n]
  unfold underB
  rw [if_neg hne]

set_option maxHeartbeats 8000000 in
set_option maxRecDepth 100000 in
theorem lawPlain10 (mi mb nx : Int) (l : List Nd) (base name : List UInt8) (t : Nat) (ht : t < 256) (v : Value) (w : World) (hv : Nds w v l) :
    Calls Try.prog 3 #[.agg (fsC mi mb nx v), .string ⟨base.toArray⟩, .int .u8 (t : Int), .string ⟨name.toArray⟩] w fun e w' => e = .returned (.bool true) ∧ Below w.heap.size w w' := by
  obtain ⟨a, ca, rfl⟩ := nds_slice hv
  have bF := Blk.new w 24 (fsC mi mb nx (.slice a l.length ca))
  have hB := alloc_below w (.cells (fsC mi mb nx (.slice a l.length ca)) 24)
  have nV := hv.below hB
  clear hv
  cases hok : okB mi mb nx l
  · go_enter Try.func3, Try.ntmps3
    go_wp2_with fail; refine (awake10 _).mono ?_; rintro e w1 ⟨rfl, b⟩
    (replace bF := bF.next b; replace nV := nV.below b; replace hB := hB.trans (b.mono hB.size))
    obtain ⟨⟨p0, p1, p2, p3⟩, _⟩ := bF.four
    go_wp2_with fail; refine (refOk_any mi mb nx l _ _ nV).mono ?_; rintro e w2 ⟨rfl, b2⟩
    (replace bF := bF.next b2; replace nV := nV.below b2; replace hB := hB.trans (b2.mono hB.size))
    rw [hok]
    go_wp2_with fail; refine (awake10 _).mono ?_; rintro e w3 ⟨rfl, b3⟩
    go_wp2
    go_ret
    exact ⟨rfl, hB.trans (b3.mono hB.size)⟩
  cases hsh : shortB l base name
  · go_enter Try.func3, Try.ntmps3
    go_wp2_with fail; refine (awake10 _).mono ?_; rintro e w1 ⟨rfl, b⟩
    (replace bF := bF.next b; replace nV := nV.below b; replace hB := hB.trans (b.mono hB.size))
    obtain ⟨⟨p0, p1, p2, p3⟩, _⟩ := bF.four
    go_wp2_with fail; refine (refOk_any mi mb nx l _ _ nV).mono ?_; rintro e w2 ⟨rfl, b2⟩
    (replace bF := bF.next b2; replace nV := nV.below b2; replace hB := hB.trans (b2.mono hB.size))
    rw [hok]
    clear p0 p1 p2 p3
    obtain ⟨⟨p0, p1, p2, p3⟩, _⟩ := bF.four
    go_wp2_with fail; refine (refShort_any mi mb nx l base name _ _ nV).mono ?_; rintro e w4 ⟨rfl, b4⟩
    (replace bF := bF.next b4; replace nV := nV.below b4; replace hB := hB.trans (b4.mono hB.size))
    rw [hsh]
    go_wp2_with fail; refine (awake10 _).mono ?_; rintro e w3 ⟨rfl, b3⟩
    go_wp2
    go_ret
    exact ⟨rfl, hB.trans (b3.mono hB.size)⟩
  obtain ⟨hbl, hnl⟩ := short_parts hsh
  have hld := lead10_of hok
  obtain ⟨f1, f2, f3⟩ := few_ents (ok_parts hok).1
  have hda := data_few hok
  have hLl : (listN l).length ≤ 1000000 := by have := hld.few; omega
  have hLc := fun w' (h : Nds w' (.slice a l.length ca) l) => refList_any mi mb nx l _ w' h f3 (by omega) hLl
  generalize listN l = L at *
  have hpos := hld.pos
  have hfew := hld.few
  obtain ⟨ns, s, hm, hp, hen⟩ := hld.at_ (t % L.length) (Nat.mod_lt _ hpos)
  have hpl := hld.short _ (List.getElem_mem (Nat.mod_lt t hpos))
  have hk : t % L.length < L.length := Nat.mod_lt _ hpos
  clear hld hLl f1 f3
  go_enter Try.func3, Try.ntmps3
  go_wp2_with fail; refine (awake10 _).mono ?_; rintro e w1 ⟨rfl, b1⟩
  (replace bF := bF.next b1; replace nV := nV.below b1; replace hB := hB.trans (b1.mono hB.size))
  obtain ⟨⟨p0, p1, p2, p3⟩, _⟩ := bF.four
  go_wp2_with fail; refine (refOk_any mi mb nx l _ _ nV).mono ?_; rintro e w2 ⟨rfl, b2⟩
  (replace bF := bF.next b2; replace nV := nV.below b2; replace hB := hB.trans (b2.mono hB.size))
  rw [hok]
  clear p0 p1 p2 p3
  obtain ⟨⟨p0, p1, p2, p3⟩, _⟩ := bF.four
  go_wp2_with fail; refine (refShort_any mi mb nx l base name _ _ nV).mono ?_; rintro e w4 ⟨rfl, b4⟩
  (replace bF := bF.next b4; replace nV := nV.below b4; replace hB := hB.trans (b4.mono hB.size))
  rw [hsh]
  clear p0 p1 p2 p3
  obtain ⟨⟨p0, p1, p2, p3⟩, _⟩ := bF.four
  have hLc2 := hLc _ nV
  go_wp2_with fail
  refine hLc2.mono ?_
  rintro e w3 ⟨y, rfl, hown, b3⟩
  (replace bF := bF.next b3; replace nV := nV.below b3; replace hB := hB.trans (b3.mono hB.size))
  have hE := own_ents hown
  obtain ⟨ay, cy, rfl, hE1, hE2, hE3⟩ := id hE
  unfold maxLen at hE2
  obtain ⟨b, o, rfl, hb, hcl⟩ := hE3 hpos
  have hc := hcl (t % L.length) hk
  generalize L[t % L.length] = q at *
  obtain ⟨qp, qz⟩ := q
  dsimp only at hc hp hen hpl
  subst hp
  clear hLc hLc2 p0 p1 p2 p3 b1 b2 b3 b4 hown hE hE3 hcl
  obtain ⟨c0, c1⟩ := hc
  obtain ⟨⟨p0, p1, p2, p3⟩, _⟩ := bF.four
  by_cases hlen : 4095 < (joinB ns).length
  · go_wp2
    go_ret
    exact ⟨rfl, hB⟩
  obtain ⟨hA, hG⟩ := list_atP hm hen
  have hS1 := seek_plain base hm hen (by omega)
  have hCG := fun W (hW : Nds W (.slice a l.length ca) l) => refGetP_any mi mb nx l (joinB ns) _ W hW (by omega)
  have hCA := fun W (hW : Nds W (.slice a l.length ca) l) => refAt_any mi mb nx l (joinB ns) _ W hW (by omega)
  have hCS := fun W (hW : Nds W (.slice a l.length ca) l) => Seek_any mi mb nx l base (joinB ns) false _ W hW hok (by omega) (by omega)
  rw [hG] at hCG
  rw [hA] at hCA
  rw [hS1] at hCS
  have hname : (getN l qz).kind = 2 → mayB name = true → joinB ns ≠ [47] → ∃ q : Sp, seekP l (joinB ns) name false = (q, 0) ∧ atP l (joinB ns ++ [47] ++ name) = (q, 0) := fun hk hmn hne => by
    have := seek_name hm hen hk hmn
    rw [join_more hm hne]
    exact ⟨_, this.1, this.2⟩
  have hCN := fun W (hW : Nds W (.slice a l.length ca) l) => Seek_any mi mb nx l (joinB ns) name false _ W hW hok (by omega) (by omega)
  have hCM := fun W (hW : Nds W (.slice a l.length ca) l) => refAt_any mi mb nx l (joinB ns ++ [47] ++ name) _ W hW (by simp; omega)
  obtain ⟨ag, ng, cg, hgs⟩ := get_slice nV qz
  clear hA hG hS1 hm hen
  generalize getN l qz = G at *
  obtain ⟨gi, gk, gl, gd, gp, ge, gn⟩ := G
  obtain ⟨sd, sn, si⟩ := s
  dsimp only at hgs hCG hCA hCS hname
  subst hgs
  generalize joinB ns = p at *
  have HNM := Lib.hid hname
  have HCN := Lib.hid hCN
  have HCM := Lib.hid hCM
  clear hname hCN hCM
  go_wp2_with fail; refine (hCG _ nV).mono ?_; rintro e w5 ⟨rfl, b5⟩
  have s5 := alloc_below w5 (.cells (ndC ⟨gi, gk, gl, gd, gp, .slice ag ng cg, gn⟩) 34)
  have bX := Blk.new w5 34 (ndC ⟨gi, gk, gl, gd, gp, .slice ag ng cg, gn⟩)
  (replace bF := bF.next b5; replace nV := nV.below b5; replace hB := hB.trans (b5.mono hB.size))
  (replace bF := bF.next s5; replace nV := nV.below s5; replace hB := hB.trans (s5.mono hB.size))
  clear b5 s5 p0 p1 p2 p3 hCG c0 c1
  obtain ⟨⟨p0, p1, p2, p3⟩, _⟩ := bF.four
  go_wp2_with fail; refine (hCS _ nV).mono ?_; rintro e w6 ⟨rfl, b6⟩
  have s6 := alloc_below w6 (.cells (spC ⟨sd, sn, si⟩) 38)
  have bA := Blk.new w6 38 (spC ⟨sd, sn, si⟩)
  (replace bF := bF.next b6; replace nV := nV.below b6; replace hB := hB.trans (b6.mono hB.size))
  (replace bF := bF.next s6; replace nV := nV.below s6; replace hB := hB.trans (s6.mono hB.size))
  replace bX := (bX.next b6).next s6
  clear b6 s6 p0 p1 p2 p3 hCS
  obtain ⟨⟨p0, p1, p2, p3⟩, _⟩ := bF.four
  go_wp2_with fail; refine (hCA _ nV).mono ?_; rintro e w7 ⟨rfl, b7⟩
  have s7 := alloc_below w7 (.cells (spC ⟨sd, sn, si⟩) 38)
  have bC := Blk.new w7 38 (spC ⟨sd, sn, si⟩)
  (replace bF := bF.next b7; replace nV := nV.below b7; replace hB := hB.trans (b7.mono hB.size))
  (replace bF := bF.next s7; replace nV := nV.below s7; replace hB := hB.trans (s7.mono hB.size))
  replace bX := (bX.next b7).next s7
  replace bA := (bA.next b7).next s7
  clear b7 s7 p0 p1 p2 p3 hCA
  obtain ⟨⟨a0, a1, a2⟩, _⟩ := bA.three
  obtain ⟨⟨d0, d1, d2⟩, _⟩ := bC.three
  obtain ⟨⟨x0, x1, x2, x3, x4, x5⟩, _⟩ := bX.six
  dsimp only at a0 a1 a2 d0 d1 d2 x0 x1 x2 x3 x4 x5
  by_cases hk2 : gk = 2
  · subst hk2
    have hMy := refMay_any name (w7.alloc (.cells #[.int .i64 sd, .string ⟨sn.toArray⟩, .int .i64 si] 38)) (by omega)
    cases hmn : mayB name
    · rw [hmn] at hMy
      go_wp2_with fail
      refine hMy.mono ?_
      rintro e wz ⟨rfl, hwz⟩
      subst hwz
      go_wp2
      go_ret
      exact ⟨rfl, hB⟩
    · rw [hmn] at hMy
      by_cases hp47 : p = [47]
      · have hpb : (p == [47]) = true := by simpa using hp47
        clear hp47
        go_wp2_with fail
        refine hMy.mono ?_
        rintro e wz ⟨rfl, hwz⟩
        subst hwz
        go_wp2
        go_ret
        exact ⟨rfl, hB⟩
      · have hpb : (p == [47]) = false := by simpa using hp47
        obtain ⟨⟨qa, qb, qc⟩, hq1, hq2⟩ := HNM.out rfl hmn hp47
        have hCN := HCN.out
        have hCM := HCM.out
        rw [hq1] at hCN
        rw [hq2] at hCM
        have e16 : (ByteArray.mk p.toArray ++ ByteArray.mk #[47] ++ ByteArray.mk name.toArray) = ⟨(p ++ [47] ++ name).toArray⟩ := by rw [cat47B, catB]
        rw [← e16] at hCM
        have n1 : (ByteArray.mk p.toArray).size ≤ 20000 := by simp [ByteArray.size]; omega
        have n2 : (ByteArray.mk name.toArray).size ≤ 5000 := by simpa [ByteArray.size] using hnl
        clear hq1 hq2 HNM HCN HCM e16 hp47
        obtain ⟨⟨p0, p1, p2, p3⟩, _⟩ := bF.four
        go_wp2_with fail
        refine hMy.mono ?_
        rintro e wz ⟨rfl, hwz⟩
        subst hwz
        go_wp2_with fail
        refine (hCN _ nV).mono ?_
        rintro e w8 ⟨rfl, b8⟩
        have s8 := alloc_below w8 (.cells (spC ⟨qa, qb, qc⟩) 38)
        have bD := Blk.new w8 38 (spC ⟨qa, qb, qc⟩)
        (replace bF := bF.next b8; replace nV := nV.below b8; replace hB := hB.trans (b8.mono hB.size))
        (replace bF := bF.next s8; replace nV := nV.below s8; replace hB := hB.trans (s8.mono hB.size))
        clear b8 s8 p0 p1 p2 p3 a0 a1 a2 d0 d1 d2 x0 x1 x2 x3 x4 x5 hMy hCN
        obtain ⟨⟨p0, p1, p2, p3⟩, _⟩ := bF.four
        go_wp2_with fail
        refine (hCM _ nV).mono ?_
        rintro e w9 ⟨rfl, b9⟩
        have s9 := alloc_below w9 (.cells (spC ⟨qa, qb, qc⟩) 38)
        have bE := Blk.new w9 38 (spC ⟨qa, qb, qc⟩)
        (replace bF := bF.next b9; replace nV := nV.below b9; replace hB := hB.trans (b9.mono hB.size))
        (replace bF := bF.next s9; replace nV := nV.below s9; replace hB := hB.trans (s9.mono hB.size))
        replace bD := (bD.next b9).next s9
        clear b9 s9 p0 p1 p2 p3 hCM
        obtain ⟨⟨a0, a1, a2⟩, _⟩ := bD.three
        obtain ⟨⟨d0, d1, d2⟩, _⟩ := bE.three
        dsimp only at a0 a1 a2 d0 d1 d2
        go_wp2
        go_ret
        exact ⟨rfl, hB⟩
  · go_wp2
    go_ret
    exact ⟨rfl, hB⟩

namespace LSeekPlain
set_option maxRecDepth 100000 in
theorem lifted (os : Os) (started : os.Started) (H : Type) (enc : TypeId × Value → H) :
    ReturnsInHanded {} Try.checked os 3 .any (Rows.seekPlainSpec.pre6 enc Try.prog Try.f3 Rows.seekPlainRow.domain false) (Rows.seekPlainSpec.post enc Try.prog Try.f3 false true false false) := by
  refine returnsInHanded_of_change (C := Try.checked) (by kernel_rfl) started (by kernel_rfl) Try.func3
    (ChangeSpec.witness6 (enc := enc) (C := Try.checked) false ⟨#[], #[.agg #[.int .i64 0, .int .i64 0, .int .i64 0, .slice none 0 0], .string ByteArray.empty, .int .u8 0, .string ByteArray.empty], []⟩ 8 (by kernel_rfl) (by kernel_rfl) (by kernel_rfl) (by kernel_rfl)) ?_
  intro W base args ds gs before hval0 hW hcnd _
  have hval : ∀ (j : Nat) t v, Try.f3.params[j]? = some t → args[j]? = some v → Value.okWide Try.prog W .any base t v := hval0
  have hW' := hW
  obtain ⟨p, q, hA0, hV, rfl, hfz, hnd⟩ := hW
  have hA : DataW.TrodAll enc Try.prog W 0 (fun _ => true) true Try.f3.params.toList args.toList ds p := hA0
  rw [Try.params3] at hA hval
  obtain ⟨v0, vs0, d0, ds0, p0, q0, hargs, rfl, rfl, k0, r0⟩ := trodAll_cons hA
  obtain ⟨v1, vs1, d1, ds1, p1, q1, rfl, rfl, rfl, k1, r1⟩ := trodAll_cons r0
  obtain ⟨v2, vs2, d2, ds2, p2, q2, rfl, rfl, rfl, k2, r2⟩ := trodAll_cons r1
  obtain ⟨v3, vs3, d3, ds3, p3, q3, rfl, rfl, rfl, k3, r3⟩ := trodAll_cons r2
  obtain ⟨rfl, rfl, rfl⟩ := trodAll_nil r3
  obtain rfl : args = #[v0, v1, v2, v3] := by cases args; simp_all
  obtain ⟨rfl, rfl⟩ := trodVars_none hV
  have ok0 := hval 0 24 v0 rfl rfl
  have ok1 := hval 1 9 v1 rfl rfl
  have ok2 := hval 2 5 v2 rfl rfl
  have ok3 := hval 3 9 v3 rfl rfl
  have lt0 : ∀ x ∈ p0, x.block < W.heap.size := by obtain ⟨m, hm⟩ := k0; exact DataW.trod_lt m _ _ _ hm
  have lt1 : ∀ x ∈ p1, x.block < W.heap.size := by obtain ⟨m, hm⟩ := k1; exact DataW.trod_lt m _ _ _ hm
  have lt2 : ∀ x ∈ p2, x.block < W.heap.size := by obtain ⟨m, hm⟩ := k2; exact DataW.trod_lt m _ _ _ hm
  have lt3 : ∀ x ∈ p3, x.block < W.heap.size := by obtain ⟨m, hm⟩ := k3; exact DataW.trod_lt m _ _ _ hm
  have C : Calls Try.prog 3 #[v0, v1, v2, v3] W fun e w' => e = .returned (.bool true) ∧ Below W.heap.size W w' := by
    clear hA0 hval0 hval hW' hcnd hV hfz hnd
    obtain ⟨mi, mb, nx, x, l, rfl, hx⟩ := fs_of_trod k0 ok0
    obtain ⟨s, rfl, rfl, rfl, hs⟩ := open_string Try.underlying9 ok1 k1
    obtain ⟨t, rfl, rfl, rfl, ht⟩ := open_int Try.underlying5 ok2 k2
    obtain ⟨s2, rfl, rfl, rfl, hs2⟩ := open_string Try.underlying9 ok3 k3
    rw [str_eta s, str_eta s2]
    have hb := bounds_u8 ht
    obtain ⟨n, rfl⟩ := Int.eq_ofNat_of_zero_le hb.1
    exact lawPlain10 mi mb nx l _ _ n (by omega) x W hx
  refine C.mono fun e W' ⟨he, bel⟩ => ?_
  subst he
  exact ⟨_, rfl, _, _, _, [], _, [], hW', trodAll_mk1 (shut_bool Try.underlying4 _), (trodAll_cons_mk (Below.trod laidOut (by kernel_rfl) (of_decide_eq_true (by kernel_rfl)) k0 bel lt0) (trodAll_cons_mk (Below.trod laidOut (by kernel_rfl) (of_decide_eq_true (by kernel_rfl)) k1 bel lt1) (trodAll_cons_mk (Below.trod laidOut (by kernel_rfl) (of_decide_eq_true (by kernel_rfl)) k2 bel lt2) (trodAll_cons_mk (Below.trod laidOut (by kernel_rfl) (of_decide_eq_true (by kernel_rfl)) k3 bel lt3) trodAll_mk0)))), rfl, bel.frame _, fun h => by cases h⟩
theorem proved : Rows.SeekPlainSaid :=
  OpenClaim.holds_of_wide 3 Try.f3 rfl rfl rfl rfl rfl rfl rfl ⟨rfl, rfl, rfl, rfl, rfl⟩ rfl rfl rfl rfl rfl (by kernel_rfl) Try.func3 (by kernel_rfl)
    (of_decide_eq_true (by kernel_rfl)) (by unfold Func.isWrapper; first | (rw [if_pos (by decide +kernel)]; kernel_rfl) | (rw [if_neg (by decide +kernel)]; exact ⟨rfl, rfl⟩))
    (fun os started H enc _ => lifted os started H enc)
#print axioms proved
end LSeekPlain
end Go.Proofs.Ytakaoplfkjejfaa
