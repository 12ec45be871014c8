import Derived.Test.YtdgedcfenpmaoaaGreatQMWalkA12
import Derived.Test.YtdgedcfenpmaoaaGreatQWalkE05
import Derived.Test.YtdgedcfenpmaoaaGreatQMDrop12
set_option linter.unusedVariables false
set_option linter.unusedSimpArgs false
/- Walks: the document's way under, and its walk. -/
set_option linter.unusedVariables false
set_option linter.unusedSimpArgs false
namespace Go.Proofs.YtdgedcfenpmaoaaGreat
open Go.RowKit

theorem catB (a b : List UInt8) : ByteArray.mk a.toArray ++ ByteArray.mk b.toArray = ⟨(a ++ b).toArray⟩ := by apply ByteArray.ext; simp [ByteArray.data_append]
theorem cat47B (a : List UInt8) : ByteArray.mk a.toArray ++ ByteArray.mk #[47] = ⟨(a ++ [47]).toArray⟩ := catB a [47]
theorem refUnder_any (p n : List UInt8) (w : World) (hp : p.length ≤ 1000000) (hn : n.length ≤ 1000000) :
    Calls Tryz.prog 77 #[.string ⟨p.toArray⟩, .string ⟨n.toArray⟩] w fun e w' => e = .returned (.string ⟨(underB p n).toArray⟩) ∧ w = w' := by
  cases h : (p == [47])
  · have HU : Hid (underB p n = p ++ [47] ++ n) := by (show _ = _); unfold underB; rw [if_neg (by simpa using h)]
    go_enter Tryz.func77, Tryz.ntmps77
    go_wp2
    all_goals first | (go_ret; exact ⟨by rw [HU.out, ← catB, ← cat47B]; rfl, rfl⟩) | (simp [ByteArray.size]; omega)
  · have HU : Hid (underB p n = p ++ n) := by (show _ = _); unfold underB; rw [if_pos (by simpa using h)]
    go_enter Tryz.func77, Tryz.ntmps77
    go_wp2
    all_goals first | (go_ret; exact ⟨by rw [HU.out, ← catB]; rfl, rfl⟩) | (simp [ByteArray.size]; omega)

theorem infoS2 : (Tryz.prog.info? 99).map (fun i => (i.zero, i.size, i.bytes)) = some (some (.agg #[.string ⟨#[]⟩, .int .i64 0]), 2, 24) := by kernel_rfl
theorem ents_src {w : World} {base : Nat} {e : TypeId} {a : Option Addr} {n cap : Nat} {l : List Ent} (h : w.ownsRow base e 2 (.slice a n cap) n (entsV l)) : ∀ ad, a = some ad → ∀ j u, (entsV l)[j]? = some u → w.cell? (ad.add j) = some u := by
  intro ad had j u hj
  have hl : 0 < l.length := by
    rcases Nat.eq_zero_or_pos l.length with h0 | h0
    · rw [List.eq_nil_of_length_eq_zero h0] at hj; simp [entsV] at hj
    · exact h0
  obtain ⟨ad', e1, _, h3⟩ := (own_ents h).src hl
  obtain rfl : ad = ad' := by rw [had] at e1; exact Option.some.inj e1
  exact h3 j u hj
theorem own_none {w : World} {base : Nat} {e : TypeId} {size : Nat} {a : Option Addr} {n cap : Nat} {xs : List Value} (h : w.ownsRow base e size (.slice a n cap) n xs) : a = none → n = 0 ∧ cap = 0 := by
  rintro rfl
  rcases own_cases h with ⟨h1, h2, _⟩ | ⟨g, c, h1, _⟩
  · simp at h1; exact ⟨h2, h1.2⟩
  · simp at h1

set_option maxHeartbeats 8000000 in
set_option maxRecDepth 100000 in
theorem refBelow_any (mi mb nx : Int) (l : List Nd) (v : Value) (hsh : ∀ x ∈ l, shortP 300 x.ents) (hl : l.length ≤ 1000000) : ∀ (d : Nat) (i : Int) (p : List UInt8) (deep : Int) (w : World), Nds w v l → deep + 1 = (d : Int) → p.length + d * 301 ≤ 1000000 → (belowN l d i p).length ≤ 1000000 →
    Calls Tryz.prog 54 #[.agg (fsC mi mb nx v), .int .i64 i, .string ⟨p.toArray⟩, .int .i64 deep] w fun e w' => ∃ y, e = .returned y ∧ w'.ownsRow w.heap.size 99 2 y (belowN l d i p).length (entsV (belowN l d i p)) ∧ Below w.heap.size w w' := by
  intro d
  induction d with
  | zero =>
    intro i p deep w hv hd hp ht
    obtain ⟨a, ca, rfl⟩ := nds_slice hv
    obtain rfl : deep = -1 := by omega
    have bF := Blk.new w 24 (fsC mi mb nx (.slice a l.length ca))
    have hB := alloc_below w (.cells (fsC mi mb nx (.slice a l.length ca)) 24)
    have nV := hv.below hB
    obtain ⟨ag, ng, cg, hgs⟩ := get_slice hv i
    clear hv
    have hG := refGetT_any mi mb nx i l _ _ nV
    generalize getN l i = G at *
    obtain ⟨gi, gk, gl, gd, gp, ge, gn⟩ := G
    dsimp only at hgs
    subst hgs
    generalize hasN l i = r at *
    have HN : Hid ((belowN l 0 i p) = []) := rfl
    obtain ⟨⟨p0, p1, p2, p3⟩, _⟩ := bF.four
    go_enter Tryz.func54, Tryz.ntmps54
    go_wp2_with fail
    refine hG.mono ?_
    rintro e w2 ⟨rfl, b2⟩
    clear hG
    have hB2 := hB.trans (b2.mono hB.size)
    have hB3 := hB2.alloc hB2.size (.cells (ndC ⟨gi, gk, gl, gd, gp, .slice ag ng cg, gn⟩) 42)
    cases r
    · go_wp2
      go_ret
      exact ⟨_, rfl, by rw [HN.out]; exact World.ownsRow_nil _ _ _ _, hB3⟩
    · go_wp2
      go_ret
      exact ⟨_, rfl, by rw [HN.out]; exact World.ownsRow_nil _ _ _ _, hB3⟩
  | succ d IH =>
    intro i p deep w hv hd hp ht
    obtain ⟨i0, hi, hz0, hz1, hz2⟩ := info_parts infoS2
    obtain ⟨a, ca, rfl⟩ := nds_slice hv
    have bF := Blk.new w 24 (fsC mi mb nx (.slice a l.length ca))
    have hB := alloc_below w (.cells (fsC mi mb nx (.slice a l.length ca)) 24)
    have nV := hv.below hB
    have HV := Lib.hid hv
    obtain ⟨ag, ng, cg, hgs⟩ := get_slice hv i
    have hge := get_ents hv.all i
    have hgsh : shortP 300 (getN l i).ents := by
      intro e he
      cases hh : hasN l i
      · rw [getN_none hh] at he; cases he
      · exact hsh _ (get_mem hh).1 e he
    clear hv
    have hG := refGetT_any mi mb nx i l _ _ nV
    have hnx := fun k (h : k < (getN l i).ents.length) => gone_next (l := l) (d := d) (i := i) (p := p) h
    have hen := gone_end (l := l) (d := d) (i := i) (p := p)
    have hle := fun h k => Nat.le_trans (gone_le (l := l) (d := d) (i := i) (p := p) h k) ht
    have hz := gone_zero l d i p
    have hno := below_no (l := l) (d := d + 1) (i := i) (p := p)
    have HNX := Lib.hid hnx
    have HEN := Lib.hid hen
    clear hnx hen
    generalize getN l i = G at *
    obtain ⟨gi, gk, gl, gd, gp, ge, gn⟩ := G
    dsimp only at hgs hge hgsh
    subst hgs
    obtain ⟨ag2, cg2, hgs, hE1, hE2, hE3⟩ := id hge
    simp only [Value.slice.injEq] at hgs
    obtain ⟨rfl, rfl, rfl⟩ := hgs
    unfold maxLen at hE2
    have HE := Lib.hid hE3
    clear hE3 hge
    obtain ⟨⟨p0, p1, p2, p3⟩, _⟩ := bF.four
    go_enter Tryz.func54, Tryz.ntmps54
    go_wp2_with fail
    refine hG.mono ?_
    rintro e w2 ⟨rfl, b2⟩
    clear hG
    have hB2 := hB.trans (b2.mono hB.size)
    have b3 := alloc_below w2 (.cells (ndC ⟨gi, gk, gl, gd, gp, .slice ag gn.length cg, gn⟩) 42)
    have hB3 := hB2.trans (b3.mono hB2.size)
    have F3 := (bF.next b2).next b3
    have X3 := Blk.new w2 42 (ndC ⟨gi, gk, gl, gd, gp, .slice ag gn.length cg, gn⟩)
    have hdn : ¬ deep < 0 := by omega
    cases hr : hasN l i
    · have HN := Lib.hid (hno hr)
      go_wp2
      go_ret
      exact ⟨_, rfl, by rw [HN.out]; exact World.ownsRow_nil _ _ _ _, hB3⟩
    · have HR := Lib.hid hr
      have HEN2 := Lib.hid (HEN.out hr)
      have HLE := Lib.hid (hle hr)
      have HZ := Lib.hid hz
      clear hno hle hz HEN p0 p1 p2 p3 b2 bF nV hB hB2 ht
      go_upto_region 4 with fail
      generalize hw3 : w2.alloc (.cells (ndC ⟨gi, gk, gl, gd, gp, .slice ag gn.length cg, gn⟩) 42) = w3 at *
      have hXlt := X3.lt
      clear hw3 b3 hr
      generalize w2.heap.size = BX at *
      have own0 : (w3.alloc (.cells #[.string ⟨p.toArray⟩, .int .i64 i] 99)).ownsRow w3.heap.size 99 2 (.slice (some ⟨w3.heap.size, 0, none⟩) 1 1) 1 (entsV [(p, i)]) := World.ownsRow_lit _ #[.string ⟨p.toArray⟩, .int .i64 i] 1 (Nat.le_refl _) (by decide) rfl
      have b4 := alloc_below w3 (.cells #[.string ⟨p.toArray⟩, .int .i64 i] 99)
      go_wp2
      go_loopw [11, 12] (fun s11 s12 wr => ∃ k : Nat, k ≤ gn.length ∧ s12 = .int .i64 k ∧ Below w3.heap.size w3 wr ∧ Aside (wr.ownsRow w3.heap.size 99 2 s11 (goneN l d i p k).length (entsV (goneN l d i p k)))) (fun _ s12 _ => gn.length - (intOf s12).toNat)
      case atStart => exact ⟨0, Nat.zero_le _, rfl, b4, by (show World.ownsRow _ _ _ _ _ _ _); rw [HZ.out]; exact own0⟩
      case round =>
        clear own0 b4
        obtain ⟨k, hk, rfl, hbw, HO⟩ := hrel
        obtain ⟨a3, c3, rfl⟩ := own_slice HO.out
        have x5 := (X3.next hbw).six.1.2.2.2.2.2
        dsimp only at x5
        by_cases hlt : k < gn.length
        · obtain ⟨be, oe, rfl, hbe, hce⟩ := HE.out (by omega)
          have hd01 := hce k hlt
          clear hce
          have hnm := hgsh _ (List.getElem_mem hlt)
          have hnx := HNX.out k hlt
          have hl1 := HLE.out (k + 1)
          generalize gn[k] = en at *
          obtain ⟨nm, z⟩ := en
          dsimp only at hd01 hnm hnx
          have HD := Lib.hid hd01
          have HNX1 := Lib.hid hnx
          rw [hnx, List.length_append] at hl1
          have k0 : (0 : Int) ≤ (k : Int) := by omega
          have k1 : (k : Int) < (gn.length : Int) := by omega
          have hun := under_len p nm
          have hde : IntKind.i64.wrap (deep - 1) = deep - 1 := by rw [IntKind.wrap_i64]; omega
          have HMK : ∀ W, Below w3.heap.size w3 W → (W.cell? ⟨w.heap.size, 0, none⟩ = some (.int .i64 mi) ∧ W.cell? ⟨w.heap.size, 1, none⟩ = some (.int .i64 mb) ∧ W.cell? ⟨w.heap.size, 2, none⟩ = some (.int .i64 nx) ∧ W.cell? ⟨w.heap.size, 3, none⟩ = some (.slice a l.length ca) ∧ W.cell? ⟨BX, 5, none⟩ = some (.slice (some ⟨be, oe, none⟩) gn.length cg) ∧
              W.cell? ⟨be, oe + k * 2, none⟩ = some (.string ⟨nm.toArray⟩) ∧ W.cell? ⟨be, oe + k * 2 + 1, none⟩ = some (.int .i64 z)) := by
            intro W h
            obtain ⟨⟨x0, x1, x2, x3⟩, _⟩ := (F3.next h).four
            have h2 := hB3.trans (h.mono hB3.size)
            exact ⟨x0, x1, x2, x3, (X3.next h).six.1.2.2.2.2.2, (h2.cell (p := ⟨be, oe + k * 2, none⟩) hbe).trans HD.out.1, (h2.cell (p := ⟨be, oe + k * 2 + 1, none⟩) hbe).trans HD.out.2⟩
          have hq := hbw.drew
          have hO : wr.drew.ownsRow w3.heap.size 99 2 (.slice a3 (goneN l d i p k).length c3) (goneN l d i p k).length (entsV (goneN l d i p k)) := HO.out
          clear x5 hd01 hnx
          go_upto_region 8 with fail
          go_region_held3 (fun W => W.cell? ⟨w.heap.size, 0, none⟩ = some (.int .i64 mi) ∧ W.cell? ⟨w.heap.size, 1, none⟩ = some (.int .i64 mb) ∧ W.cell? ⟨w.heap.size, 2, none⟩ = some (.int .i64 nx) ∧ W.cell? ⟨w.heap.size, 3, none⟩ = some (.slice a l.length ca) ∧ W.cell? ⟨BX, 5, none⟩ = some (.slice (some ⟨be, oe, none⟩) gn.length cg) ∧
              W.cell? ⟨be, oe + k * 2, none⟩ = some (.string ⟨nm.toArray⟩) ∧ W.cell? ⟨be, oe + k * 2 + 1, none⟩ = some (.int .i64 z))
            (first | with_reducible exact HMK _ hq | with_reducible exact HMK _ (hq.trans hb5))
            (first
              | (go_at_call 77; refine (refUnder_any p nm _ (by omega) (by omega)).mono ?_; rintro e wz ⟨rfl, rfl⟩)
              | (go_at_call 54; refine (IH z (underB p nm) (deep - 1) _ (HV.out.below (hB3.trans (hq.mono hB3.size))) (by omega) (by omega) (by omega)).mono ?_; rintro e wz ⟨y, rfl, hown2, bz⟩; obtain ⟨ay, cy, rfl⟩ := own_slice hown2; have hO := own_keep hO bz; have hq := hq.trans (bz.mono hq.size))
              | (refine step_append_any (by rfl) (.tmp 36) (.tmp 54) 50 99 (by rfl) Tryz.underlying50 hi hz0 hz1 hz2 rfl (by decide) (by decide) w3.heap.size ay _ cy _ (by rfl) (by rfl) hO (own_none hown2) (entsV_len _) (ents_src hown2) (entsV_one _) (by omega) hq.size ?_; intro v5 w5 hown5 hb5))
          all_goals (go_wp2_with fail; go_roundw)
          all_goals first | omega | exact ⟨k + 1, by omega, by go_num, hq.trans hb5, by (show World.ownsRow _ _ _ _ _ _ _); rw [HNX1.out, List.length_append, entsV_append]; exact hown5⟩ | (simp [intOf]; omega)
        · obtain rfl : k = gn.length := by omega
          have HF := Lib.hid HEN2.out
          go_wp2
          go_ret
          have hO := HO.out
          exact ⟨_, rfl, by rw [← HF.out]; exact own_base hO hB3.size, hB3.trans (hbw.mono hB3.size)⟩

set_option maxHeartbeats 2000000 in
theorem refList_any (mi mb nx : Int) (l : List Nd) (v : Value) (w : World) (hv : Nds w v l) (hsh : ∀ x ∈ l, shortP 300 x.ents) (hl : l.length ≤ 1000) (ht : (listN l).length ≤ 1000000) :
    Calls Tryz.prog 26 #[.agg (fsC mi mb nx v)] w fun e w' => ∃ y, e = .returned y ∧ w'.ownsRow w.heap.size 99 2 y (listN l).length (entsV (listN l)) ∧ Below w.heap.size w w' := by
  obtain ⟨a, ca, rfl⟩ := nds_slice hv
  have bF := Blk.new w 24 (fsC mi mb nx (.slice a l.length ca))
  have hB := alloc_below w (.cells (fsC mi mb nx (.slice a l.length ca)) 24)
  have hC := refBelow_any mi mb nx l _ hsh (by omega) (l.length + 1) 1 [47] (l.length : Int) _ (hv.below hB) (by omega) (by simp; omega) ht
  obtain ⟨⟨p0, p1, p2, p3⟩, _⟩ := bF.four
  go_enter Tryz.func26, Tryz.ntmps26
  go_wp2_with fail
  refine hC.mono ?_
  rintro e w2 ⟨y, rfl, hown, b2⟩
  go_wp2
  go_ret
  exact ⟨_, rfl, own_base hown (by simp), hB.trans (b2.mono hB.size)⟩

end Go.Proofs.YtdgedcfenpmaoaaGreat
