/- For every sound file system, and a place of the walk whose path is short: package seek leads ., .. and a slash behind it where they lead, or refuses them (no condition). -/
import Derived.Test.YtakaoplfkjejfaaQLawA10
namespace Go.Proofs.Ytakaoplfkjejfaa
open Go.ChangeShapes Go.WideShapes Go.ChangeAt Go.RowKit
open Go.ChangeMaps (open_string shut_string)
set_option linter.unusedVariables false

theorem kinds_ok {mi mb nx : Int} {l : List Nd} (h : okB mi mb nx l = true) {i : Int} (hh : hasN l i = true) : (getN l i).kind = 1 ∨ (getN l i).kind = 2 ∨ (getN l i).kind = 3 := by
  obtain ⟨_, _, h2, _⟩ := ok_parts h
  have := List.all_eq_true.1 h2 _ (get_mem hh).1
  unfold secondX at this
  split at this
  · rename_i h; exact .inr (.inl h)
  split at this
  · rename_i h; exact .inl h
  split at this
  · rename_i h; exact .inr (.inr h)
  · cases this

set_option maxHeartbeats 8000000 in
set_option maxRecDepth 100000 in
theorem lawDots10 (mi mb nx : Int) (l : List Nd) (t : Nat) (ht : t < 256) (v : Value) (w : World) (hv : Nds w v l) :
    Calls Try.prog 4 #[.agg (fsC mi mb nx v), .int .u8 (t : Int)] w fun e w' => e = .returned (.bool true) ∧ Below w.heap.size w w' := by
  obtain ⟨a, ca, rfl⟩ := nds_slice hv
  have bF := Blk.new w 24 (fsC mi mb nx (.slice a l.length ca))
  have hB := alloc_below w (.cells (fsC mi mb nx (.slice a l.length ca)) 24)
  have nV := hv.below hB
  clear hv
  cases hok : okB mi mb nx l
  · go_enter Try.func4, Try.ntmps4
    go_wp2_with fail; refine (awake10 _).mono ?_; rintro e w1 ⟨rfl, b⟩
    (replace bF := bF.next b; replace nV := nV.below b; replace hB := hB.trans (b.mono hB.size))
    obtain ⟨⟨p0, p1, p2, p3⟩, _⟩ := bF.four
    go_wp2_with fail; refine (refOk_any mi mb nx l _ _ nV).mono ?_; rintro e w2 ⟨rfl, b2⟩
    (replace bF := bF.next b2; replace nV := nV.below b2; replace hB := hB.trans (b2.mono hB.size))
    rw [hok]
    go_wp2_with fail; refine (awake10 _).mono ?_; rintro e w3 ⟨rfl, b3⟩
    go_wp2
    go_ret
    exact ⟨rfl, hB.trans (b3.mono hB.size)⟩
  have hld := lead10_of hok
  obtain ⟨f1, f2, f3⟩ := few_ents (ok_parts hok).1
  have hda := data_few hok
  have hLl : (listN l).length ≤ 1000000 := by have := hld.few; omega
  have hLc := fun w' (h : Nds w' (.slice a l.length ca) l) => refList_any mi mb nx l _ w' h f3 (by omega) hLl
  generalize listN l = L at *
  have hpos := hld.pos
  have hfew := hld.few
  obtain ⟨ns, s, hm, hp, hen⟩ := hld.at_ (t % L.length) (Nat.mod_lt _ hpos)
  have hpl := hld.short _ (List.getElem_mem (Nat.mod_lt t hpos))
  have hk : t % L.length < L.length := Nat.mod_lt _ hpos
  clear hld hLl f1 f3
  go_enter Try.func4, Try.ntmps4
  go_wp2_with fail; refine (awake10 _).mono ?_; rintro e w1 ⟨rfl, b1⟩
  (replace bF := bF.next b1; replace nV := nV.below b1; replace hB := hB.trans (b1.mono hB.size))
  obtain ⟨⟨p0, p1, p2, p3⟩, _⟩ := bF.four
  go_wp2_with fail; refine (refOk_any mi mb nx l _ _ nV).mono ?_; rintro e w2 ⟨rfl, b2⟩
  (replace bF := bF.next b2; replace nV := nV.below b2; replace hB := hB.trans (b2.mono hB.size))
  rw [hok]
  clear p0 p1 p2 p3
  obtain ⟨⟨p0, p1, p2, p3⟩, _⟩ := bF.four
  have hLc2 := hLc _ nV
  go_wp2_with fail
  refine hLc2.mono ?_
  rintro e w3 ⟨y, rfl, hown, b3⟩
  (replace bF := bF.next b3; replace nV := nV.below b3; replace hB := hB.trans (b3.mono hB.size))
  have hE := own_ents hown
  obtain ⟨ay, cy, rfl, hE1, hE2, hE3⟩ := id hE
  unfold maxLen at hE2
  obtain ⟨b, o, rfl, hb, hcl⟩ := hE3 hpos
  have hc := hcl (t % L.length) hk
  generalize L[t % L.length] = q at *
  obtain ⟨qp, qz⟩ := q
  dsimp only at hc hp hen hpl
  subst hp
  clear hLc hLc2 p0 p1 p2 p3 b1 b2 b3 hown hE hE3 hcl
  obtain ⟨c0, c1⟩ := hc
  obtain ⟨⟨p0, p1, p2, p3⟩, _⟩ := bF.four
  by_cases hlen : 4000 < (joinB ns).length
  · go_wp2
    go_ret
    exact ⟨rfl, hB⟩
  have hK := kinds_ok hok hen.has
  have hgi := (get_mem hen.has).2
  have hG := (list_atP hm hen).2
  have hD2 : (getN l qz).kind = 2 → _ := fun hk => dots_at [47] hm hen (by omega) hk
  have hD1 : (getN l qz).kind = 1 → _ := fun hk => dots_file [47] hm hen (by omega) hk (by
    intro hn
    have h1 := hen.none hn
    have h2 := hen.ino
    rw [h1] at h2
    have h3 := (tree_of hok).rootDir
    rw [show (1 : Int) = qz from h2] at h3
    omega)
  have hCG := fun W (hW : Nds W (.slice a l.length ca) l) => refGetP_any mi mb nx l (joinB ns) _ W hW (by omega)
  have hC1 := fun W (hW : Nds W (.slice a l.length ca) l) => Seek_any mi mb nx l [47] (joinB ns ++ [47, 46]) false _ W hW hok (by decide) (by simp; omega)
  have hC2 := fun W (hW : Nds W (.slice a l.length ca) l) => Seek_any mi mb nx l [47] (joinB ns ++ [47, 46, 46]) false _ W hW hok (by decide) (by simp; omega)
  have hC3 := fun W (hW : Nds W (.slice a l.length ca) l) => Seek_any mi mb nx l [47] (joinB ns ++ [47]) false _ W hW hok (by decide) (by simp; omega)
  have hC4 := fun W (hW : Nds W (.slice a l.length ca) l) => Seek_any mi mb nx l [47] (joinB ns) false _ W hW hok (by decide) (by omega)
  rw [hG] at hCG
  obtain ⟨ag, ng, cg, hgs⟩ := get_slice nV qz
  clear hG hm hen
  generalize seekP l [47] (joinB ns ++ [47, 46]) false = Q1 at *
  generalize seekP l [47] (joinB ns ++ [47, 46, 46]) false = Q2 at *
  generalize seekP l [47] (joinB ns ++ [47]) false = Q3 at *
  generalize seekP l [47] (joinB ns) false = Q4 at *
  generalize getN l qz = G at *
  obtain ⟨gi, gk, gl, gd, gp, ge, gn⟩ := G
  dsimp only at hgs hCG hD1 hD2 hK hgi
  subst hgs hgi
  have e1 : (ByteArray.mk (joinB ns).toArray ++ ByteArray.mk #[47, 46]) = ⟨(joinB ns ++ [47, 46]).toArray⟩ := catB _ [47, 46]
  have e2 : (ByteArray.mk (joinB ns).toArray ++ ByteArray.mk #[47, 46, 46]) = ⟨(joinB ns ++ [47, 46, 46]).toArray⟩ := catB _ [47, 46, 46]
  have e3 : (ByteArray.mk (joinB ns).toArray ++ ByteArray.mk #[47]) = ⟨(joinB ns ++ [47]).toArray⟩ := catB _ [47]
  rw [← e1] at hC1
  rw [← e2] at hC2
  rw [← e3] at hC3
  have n1 : (ByteArray.mk (joinB ns).toArray).size ≤ 20000 := by simp [ByteArray.size]; omega
  clear e1 e2 e3
  generalize joinB ns = p at *
  obtain ⟨⟨q1a, q1b, q1c⟩, q1e⟩ := Q1
  obtain ⟨⟨q2a, q2b, q2c⟩, q2e⟩ := Q2
  obtain ⟨⟨q3a, q3b, q3c⟩, q3e⟩ := Q3
  obtain ⟨⟨q4a, q4b, q4c⟩, q4e⟩ := Q4
  dsimp only at hC1 hC2 hC3 hC4 hD1 hD2
  have HD1 := Lib.hid hD1
  have HD2 := Lib.hid hD2
  have HK := Lib.hid hK
  clear hD1 hD2 hK
  go_wp2_with fail; refine (hCG _ nV).mono ?_; rintro e w5 ⟨rfl, b5⟩
  have s5 := alloc_below w5 (.cells (ndC ⟨gi, gk, gl, gd, gp, .slice ag ng cg, gn⟩) 34)
  have bX := Blk.new w5 34 (ndC ⟨gi, gk, gl, gd, gp, .slice ag ng cg, gn⟩)
  (replace bF := bF.next b5; replace nV := nV.below b5; replace hB := hB.trans (b5.mono hB.size))
  (replace bF := bF.next s5; replace nV := nV.below s5; replace hB := hB.trans (s5.mono hB.size))
  clear b5 s5 p0 p1 p2 p3 hCG c0 c1
  obtain ⟨⟨p0, p1, p2, p3⟩, _⟩ := bF.four
  go_wp2_with fail; refine (hC1 _ nV).mono ?_; rintro e w6 ⟨rfl, b6⟩
  have s6 := alloc_below w6 (.cells (spC ⟨q1a, q1b, q1c⟩) 38)
  have bA := Blk.new w6 38 (spC ⟨q1a, q1b, q1c⟩)
  (replace bF := bF.next b6; replace nV := nV.below b6; replace hB := hB.trans (b6.mono hB.size))
  (replace bF := bF.next s6; replace nV := nV.below s6; replace hB := hB.trans (s6.mono hB.size))
  replace bX := (bX.next b6).next s6
  clear b6 s6 p0 p1 p2 p3 hC1
  obtain ⟨⟨p0, p1, p2, p3⟩, _⟩ := bF.four
  go_wp2_with fail; refine (hC2 _ nV).mono ?_; rintro e w7 ⟨rfl, b7⟩
  have s7 := alloc_below w7 (.cells (spC ⟨q2a, q2b, q2c⟩) 38)
  have bC := Blk.new w7 38 (spC ⟨q2a, q2b, q2c⟩)
  (replace bF := bF.next b7; replace nV := nV.below b7; replace hB := hB.trans (b7.mono hB.size))
  (replace bF := bF.next s7; replace nV := nV.below s7; replace hB := hB.trans (s7.mono hB.size))
  replace bX := (bX.next b7).next s7
  replace bA := (bA.next b7).next s7
  clear b7 s7 p0 p1 p2 p3 hC2
  obtain ⟨⟨p0, p1, p2, p3⟩, _⟩ := bF.four
  go_wp2_with fail; refine (hC3 _ nV).mono ?_; rintro e w8 ⟨rfl, b8⟩
  have s8 := alloc_below w8 (.cells (spC ⟨q3a, q3b, q3c⟩) 38)
  have bD := Blk.new w8 38 (spC ⟨q3a, q3b, q3c⟩)
  (replace bF := bF.next b8; replace nV := nV.below b8; replace hB := hB.trans (b8.mono hB.size))
  (replace bF := bF.next s8; replace nV := nV.below s8; replace hB := hB.trans (s8.mono hB.size))
  replace bX := (bX.next b8).next s8
  replace bA := (bA.next b8).next s8
  replace bC := (bC.next b8).next s8
  clear b8 s8 p0 p1 p2 p3 hC3
  obtain ⟨⟨x0, x1, x2, x3, x4, x5⟩, _⟩ := bX.six
  dsimp only at x0 x1 x2 x3 x4 x5
  rcases HK.out with hk | hk | hk
  · have h := HD1.out hk
    obtain ⟨rfl, rfl, rfl⟩ := h
    subst hk
    clear HD1 HD2 HK
    go_wp2
    go_ret
    exact ⟨rfl, hB⟩
  · have h := HD2.out hk
    subst hk
    simp only [Prod.mk.injEq, Sp.mk.injEq] at h
    obtain ⟨⟨⟨rfl, rfl, rfl⟩, rfl⟩, ⟨⟨rfl, rfl, rfl⟩, rfl⟩, ⟨rfl, rfl, rfl⟩, rfl⟩ := h
    clear HD1 HD2 HK
    obtain ⟨⟨p0, p1, p2, p3⟩, _⟩ := bF.four
    go_wp2_with fail; refine (hC4 _ nV).mono ?_; rintro e w9 ⟨rfl, b9⟩
    have s9 := alloc_below w9 (.cells (spC ⟨q3a, q3b, q3c⟩) 38)
    have bE := Blk.new w9 38 (spC ⟨q3a, q3b, q3c⟩)
    (replace bF := bF.next b9; replace nV := nV.below b9; replace hB := hB.trans (b9.mono hB.size))
    (replace bF := bF.next s9; replace nV := nV.below s9; replace hB := hB.trans (s9.mono hB.size))
    replace bX := (bX.next b9).next s9
    replace bA := (bA.next b9).next s9
    replace bC := (bC.next b9).next s9
    replace bD := (bD.next b9).next s9
    clear b9 s9 p0 p1 p2 p3 hC4 x0 x1 x2 x3 x4 x5
    obtain ⟨⟨x0, x1, x2, x3, x4, x5⟩, _⟩ := bX.six
    obtain ⟨⟨a0, a1, a2⟩, _⟩ := bA.three
    obtain ⟨⟨d0, d1, d2⟩, _⟩ := bC.three
    obtain ⟨⟨f0, f1, f2⟩, _⟩ := bD.three
    obtain ⟨⟨g0, g1, g2⟩, _⟩ := bE.three
    dsimp only at x0 x1 x2 x3 x4 x5 a0 a1 a2 d0 d1 d2 f0 f1 f2 g0 g1 g2
    go_wp2
    go_ret
    exact ⟨rfl, hB⟩
  · subst hk
    clear HD1 HD2 HK
    go_wp2
    go_ret
    exact ⟨rfl, hB⟩

namespace LSeekDots
set_option maxRecDepth 100000 in
theorem lifted (os : Os) (started : os.Started) (H : Type) (enc : TypeId × Value → H) :
    ReturnsInHanded {} Try.checked os 4 .any (Rows.seekDotsSpec.pre6 enc Try.prog Try.f4 Rows.seekDotsRow.domain false) (Rows.seekDotsSpec.post enc Try.prog Try.f4 false true false false) := by
  refine returnsInHanded_of_change (C := Try.checked) (by kernel_rfl) started (by kernel_rfl) Try.func4
    (ChangeSpec.witness6 (enc := enc) (C := Try.checked) false ⟨#[], #[.agg #[.int .i64 0, .int .i64 0, .int .i64 0, .slice none 0 0], .int .u8 0], []⟩ 8 (by kernel_rfl) (by kernel_rfl) (by kernel_rfl) (by kernel_rfl)) ?_
  intro W base args ds gs before hval0 hW hcnd _
  have hval : ∀ (j : Nat) t v, Try.f4.params[j]? = some t → args[j]? = some v → Value.okWide Try.prog W .any base t v := hval0
  have hW' := hW
  obtain ⟨p, q, hA0, hV, rfl, hfz, hnd⟩ := hW
  have hA : DataW.TrodAll enc Try.prog W 0 (fun _ => true) true Try.f4.params.toList args.toList ds p := hA0
  rw [Try.params4] at hA hval
  obtain ⟨v0, vs0, d0, ds0, p0, q0, hargs, rfl, rfl, k0, r0⟩ := trodAll_cons hA
  obtain ⟨v1, vs1, d1, ds1, p1, q1, rfl, rfl, rfl, k1, r1⟩ := trodAll_cons r0
  obtain ⟨rfl, rfl, rfl⟩ := trodAll_nil r1
  obtain rfl : args = #[v0, v1] := by cases args; simp_all
  obtain ⟨rfl, rfl⟩ := trodVars_none hV
  have ok0 := hval 0 24 v0 rfl rfl
  have ok1 := hval 1 5 v1 rfl rfl
  have lt0 : ∀ x ∈ p0, x.block < W.heap.size := by obtain ⟨m, hm⟩ := k0; exact DataW.trod_lt m _ _ _ hm
  have lt1 : ∀ x ∈ p1, x.block < W.heap.size := by obtain ⟨m, hm⟩ := k1; exact DataW.trod_lt m _ _ _ hm
  have C : Calls Try.prog 4 #[v0, v1] W fun e w' => e = .returned (.bool true) ∧ Below W.heap.size W w' := by
    clear hA0 hval0 hval hW' hcnd hV hfz hnd
    obtain ⟨mi, mb, nx, x, l, rfl, hx⟩ := fs_of_trod k0 ok0
    obtain ⟨t, rfl, rfl, rfl, ht⟩ := open_int Try.underlying5 ok1 k1
    have hb := bounds_u8 ht
    obtain ⟨n, rfl⟩ := Int.eq_ofNat_of_zero_le hb.1
    exact lawDots10 mi mb nx l n (by omega) x W hx
  refine C.mono fun e W' ⟨he, bel⟩ => ?_
  subst he
  exact ⟨_, rfl, _, _, _, [], _, [], hW', trodAll_mk1 (shut_bool Try.underlying4 _), (trodAll_cons_mk (Below.trod laidOut (by kernel_rfl) (of_decide_eq_true (by kernel_rfl)) k0 bel lt0) (trodAll_cons_mk (Below.trod laidOut (by kernel_rfl) (of_decide_eq_true (by kernel_rfl)) k1 bel lt1) trodAll_mk0)), rfl, bel.frame _, fun h => by cases h⟩
theorem proved : Rows.SeekDotsSaid :=
  OpenClaim.holds_of_wide 4 Try.f4 rfl rfl rfl rfl rfl rfl rfl ⟨rfl, rfl, rfl, rfl, rfl⟩ rfl rfl rfl rfl rfl (by kernel_rfl) Try.func4 (by kernel_rfl)
    (of_decide_eq_true (by kernel_rfl)) (by unfold Func.isWrapper; first | (rw [if_pos (by decide +kernel)]; kernel_rfl) | (rw [if_neg (by decide +kernel)]; exact ⟨rfl, rfl⟩))
    (fun os started H enc _ => lifted os started H enc)
#print axioms proved
end LSeekDots
end Go.Proofs.Ytakaoplfkjejfaa
