/- Texts put together: WalkC07, WalkA08, Pure16, WalkA16, WalkB16, WalkC16, WalkO16, Same16, Map16, But16, WalkD07, WalkE07, WalkF07. -/
import Derived.Test.YtpeghnhaekebdaaQWalkB07
import Derived.Deep.RegionHeld3
import Derived.Deep.Cut
import Derived.Deep.CutRange
import Derived.Test.YtpeghnhaekebdaaQWalkE05
import Derived.Test.YtpeghnhaekebdaaQMWalkC05
import Derived.BigQuiet
import Derived.Laws.StructEq
import Derived.Test.YtpeghnhaekebdaaQWalkI05
import Derived.Test.YtpeghnhaekebdaaQMSeq08
import Derived.Maps.OwnSet
import Derived.Test.YtpeghnhaekebdaaChecked
import Derived.WalkKit
import Derived.Test.YtpeghnhaekebdaaQMLawBase05
set_option linter.unusedVariables false
set_option linter.unusedSimpArgs false
/- Walks: the document's rule 3. -/
set_option linter.unusedVariables false
set_option linter.unusedSimpArgs false
namespace Go.Proofs.Ytpeghnhaekebdaa
open Go.RowKit

theorem get_slice {w : World} {v : Value} {l : List Nd} (h : Nds w v l) (i : Int) : ∃ a n c, (getN l i).ev = .slice a n c := by
  obtain ⟨a, c, e, _⟩ := get_ents h.all i
  exact ⟨_, _, _, e⟩

set_option maxHeartbeats 8000000 in
set_option maxRecDepth 100000 in
theorem refThird_any (mi mb nx : Int) (l : List Nd) (v : Value) (w : World) (hv : Nds w v l) (hl : l.length ≤ 1000000) :
    Calls Try.prog 29 #[.agg (fsC mi mb nx v)] w fun e w' => e = .returned (.bool (thirdB l)) ∧ Below w.heap.size w w' := by
  obtain ⟨a, ca, rfl, hc, hm, hea, hna, HA0⟩ := id hv
  unfold maxLen at hm
  have HA := Lib.hid HA0
  have HV := Lib.hid hv
  clear HA0 hea hv
  have b0 := Blk.new w 24 (fsC mi mb nx (.slice a l.length ca))
  have hB0 := alloc_below w (.cells (fsC mi mb nx (.slice a l.length ca)) 24)
  go_enter Try.func29, Try.ntmps29
  go_wp2
  go_loopw [3] (fun s3 wr => ∃ k : Nat, k ≤ l.length ∧ s3 = .int .i64 k ∧ Aside ((l.take k).all (thirdX l) = true) ∧ Below w.heap.size w wr ∧ Aside (Blk wr w.heap.size 24 (fsC mi mb nx (.slice a l.length ca)))) (fun s3 _ => l.length - (intOf s3).toNat)
  case atStart => exact ⟨0, Nat.zero_le _, rfl, by (show _ = _); simp, hB0, b0⟩
  case round =>
    clear b0 hB0
    obtain ⟨k, hk, rfl, HT, hbw, HB⟩ := hrel
    have p3 := HB.out.four.1.2.2.2
    by_cases hlt : k < l.length
    · obtain ⟨b, o, rfl, hb, hcl⟩ := HA.out (by omega)
      have HCL := Lib.hid (hcl k hlt)
      clear hcl
      have hno : thirdX l l[k] = false → thirdB l = false := all_no hlt
      have hye : thirdX l l[k] = true → (l.take (k + 1)).all (thirdX l) = true := allT_next hlt HT.out
      have hE := HV.out.all _ (List.getElem_mem hlt)
      generalize l[k] = y at *
      have HNO := Lib.hid hno
      have HYE := Lib.hid hye
      clear hno hye HT
      obtain ⟨yi, yk, yl, yd, yp, ye, yn⟩ := y
      dsimp only at hE
      obtain ⟨ae, ne, rfl, hE1, hE2, hE3⟩ := id hE
      unfold maxLen at hE2
      have HE := Lib.hid hE3
      clear hE3 hE
      have k0 : (0 : Int) ≤ (k : Int) := by omega
      have k1 : (k : Int) < (l.length : Int) := by omega
      go_wp2
      go_loopw [4] (fun s4 wr => ∃ m : Nat, m ≤ yn.length ∧ s4 = .int .i64 m ∧ Aside ((yn.take m).all (fun e => hasN l e.2) = true) ∧ Below w.heap.size w wr ∧ Aside (Blk wr w.heap.size 24 (fsC mi mb nx (.slice (some ⟨b, o, none⟩) l.length ca)))) (fun s4 _ => yn.length - (intOf s4).toNat)
      case atStart => exact ⟨0, Nat.zero_le _, rfl, by (show _ = _); simp, hbw, HB.out⟩
      case round =>
        clear hbw HB p3
        obtain ⟨m, hm2, rfl, HM, hbt, HBt⟩ := hrel
        have p3 := HBt.out.four.1.2.2.2
        obtain ⟨c0, c1, c2, c3, c4, c5⟩ := HCL.out.below hbt hb
        dsimp only at c0 c1 c2 c3 c4 c5
        by_cases hmlt : m < yn.length
        · obtain ⟨be, oe, rfl, hbe, hce⟩ := HE.out (by omega)
          have hd1 := (hce m hmlt).2
          clear hce
          have m0 : (0 : Int) ≤ (m : Int) := by omega
          have m1 : (m : Int) < (yn.length : Int) := by omega
          have HD := Lib.hid hd1
          have hno2 : hasN l yn[m].2 = false → thirdB l = false := fun h => HNO.out (all_no (p := fun e : Ent => hasN l e.2) hmlt h)
          have hye2 : hasN l yn[m].2 = true → (yn.take (m + 1)).all (fun e => hasN l e.2) = true := allT_next (p := fun e : Ent => hasN l e.2) hmlt HM.out
          generalize yn[m].2 = z at *
          have HNO2 := Lib.hid hno2
          have HYE2 := Lib.hid hye2
          clear hno2 hye2 hd1 HM
          have hdr : Below wr.heap.size wr wr.drew := (Below.refl _ _).drew
          have hdr2 : Below wr.heap.size wr (wr.alloc (.cells #[.int .i64 0, .int .i64 0, .int .i64 0, .string ⟨#[]⟩, .int .i64 0, .slice none 0 0] 33)).drew := (alloc_below wr _).drew
          have hGc : ∀ W, Below wr.heap.size wr W → Calls Try.prog 21 #[.agg (fsC mi mb nx (.slice (some ⟨b, o, none⟩) l.length ca)), .int .i64 z] W fun e w' => e = .returned (.tuple #[.agg (ndC (getN l z)), .bool (hasN l z)]) ∧ Below W.heap.size W w' :=
            fun W hW => refGetT_any mi mb nx z l _ _ (HV.out.below (hbt.trans (hW.mono hbt.size)))
          have HMK : ∀ W, Below wr.heap.size wr W → (W.cell? ⟨w.heap.size, 0, none⟩ = some (.int .i64 mi) ∧ W.cell? ⟨w.heap.size, 1, none⟩ = some (.int .i64 mb) ∧ W.cell? ⟨w.heap.size, 2, none⟩ = some (.int .i64 nx) ∧ W.cell? ⟨w.heap.size, 3, none⟩ = some (.slice (some ⟨b, o, none⟩) l.length ca) ∧
              W.cell? ⟨b, o + k * 6 + 5, none⟩ = some (.slice (some ⟨be, oe, none⟩) yn.length ne) ∧ W.cell? ⟨be, oe + m * 2 + 1, none⟩ = some (.int .i64 z)) := by
            intro W h
            obtain ⟨⟨x0, x1, x2, x3⟩, _⟩ := (HBt.out.next h).four
            have h2 := hbt.trans (h.mono hbt.size)
            exact ⟨x0, x1, x2, x3, (HCL.out.below h2 hb).2.2.2.2.2, (h2.cell (p := ⟨be, oe + m * 2 + 1, none⟩) hbe).trans HD.out⟩
          obtain ⟨ag, ng, cg, hgs⟩ := get_slice HV.out z
          generalize getN l z = G at *
          obtain ⟨gi, gk, gl, gd, gp, ge, gn⟩ := G
          dsimp only at hgs
          subst hgs
          generalize hr : hasN l z = r at *
          have hG1 := hGc _ hdr
          have hG2 := hGc _ hdr2
          have hG3 := hGc (wr.drew.alloc (.cells #[.int .i64 0, .int .i64 0, .int .i64 0, .string ⟨#[]⟩, .int .i64 0, .slice none 0 0] 33)) (hdr.alloc hdr.size _)
          have hq := hdr
          clear c0 c1 c2 c3 c4 hr
          go_upto_region 7 with fail
          go_cut [5, 6] from 25 to 41 (fun s5 s6 wc => s6 = .bool r ∧ Below wr.heap.size wr wc)
          case first =>
            clear p3 c5
            go_region_held3 (fun W => W.cell? ⟨w.heap.size, 0, none⟩ = some (.int .i64 mi) ∧ W.cell? ⟨w.heap.size, 1, none⟩ = some (.int .i64 mb) ∧ W.cell? ⟨w.heap.size, 2, none⟩ = some (.int .i64 nx) ∧ W.cell? ⟨w.heap.size, 3, none⟩ = some (.slice (some ⟨b, o, none⟩) l.length ca) ∧
              W.cell? ⟨b, o + k * 6 + 5, none⟩ = some (.slice (some ⟨be, oe, none⟩) yn.length ne) ∧ W.cell? ⟨be, oe + m * 2 + 1, none⟩ = some (.int .i64 z))
              (first | with_reducible exact HMK _ hq | with_reducible exact HMK _ (hq.alloc hq.size _) | with_reducible exact HMK _ hdr2 | with_reducible exact HMK _ (below_grown hq hgW (Nat.le_refl _) (Nat.le_refl _)))
              (first
                | (go_at_call 21; with_reducible refine hG1.mono ?_; rintro e w6 ⟨rfl, b6⟩; have hq := hq.trans (b6.mono hq.size))
                | (go_at_call 21; (first | with_reducible refine hG3.mono ?_ | with_reducible refine hG2.mono ?_); rintro e w6 ⟨rfl, b6⟩; have hbx : Blk w6 wr.heap.size 33 (ndC zeroN) := Blk.next (W := wr.drew.alloc (.cells #[.int .i64 0, .int .i64 0, .int .i64 0, .string ⟨#[]⟩, .int .i64 0, .slice none 0 0] 33)) (Blk.new wr.drew 33 (ndC zeroN)) b6; have hq := (hq.alloc hq.size (.cells #[.int .i64 0, .int .i64 0, .int .i64 0, .string ⟨#[]⟩, .int .i64 0, .slice none 0 0] 33)).trans (b6.mono (hq.alloc hq.size (.cells #[.int .i64 0, .int .i64 0, .int .i64 0, .string ⟨#[]⟩, .int .i64 0, .slice none 0 0] 33)).size); obtain ⟨⟨x0, x1, x2, x3, x4, x5⟩, f0, f1, f2, f3, f4, f5⟩ := hbx.six; simp only [zeroN] at x0 x1 x2 x3 x4 x5; obtain ⟨W', hW', hbW, hgW⟩ := hbx.put6 ⟨gi, gk, gl, gd, gp, .slice ag ng cg, gn⟩; dsimp only at hW'))
            all_goals (go_wp2_with fail; go_meet)
            all_goals first
              | exact ⟨rfl, hq.alloc hq.size _⟩
              | exact ⟨rfl, below_grown hq hgW (Nat.le_refl _) (Nat.le_refl _)⟩
          case rest =>
            obtain ⟨rfl, hbc⟩ := hcut
            have hbt2 := hbt.trans (hbc.mono hbt.size)
            have HB2 := HBt.out.next hbc
            cases r
            · have HN := Lib.hid (HNO2.out rfl)
              clear hGc hG1 hG2 hG3 HMK
              go_wp2
              go_ret
              exact ⟨ret_bool (by rw [HN.out]), hbt2⟩
            · have HM2 := Lib.hid (HYE2.out rfl)
              clear hGc hG1 hG2 hG3 HMK
              go_wp2
              go_roundw
              case rel => exact ⟨m + 1, by omega, by go_num, HM2.out, hbt2, HB2⟩
              case measure => simp [intOf]; omega
        · obtain rfl : m = yn.length := by omega
          have HT2 := Lib.hid (HYE.out (allT_end HM.out))
          clear HNO HYE
          go_wp2
          go_roundw
          case rel => exact ⟨k + 1, by omega, by go_num, HT2.out, hbt, HBt.out⟩
          case measure => simp [intOf]; omega
    · obtain rfl : k = l.length := by omega
      have HN : Hid (thirdB l = true) := allT_end HT.out
      go_wp2
      go_ret
      exact ⟨ret_bool (by rw [HN.out]), hbw⟩
end Go.Proofs.Ytpeghnhaekebdaa

/- Walks: the document's way under, and its walk. -/
set_option linter.unusedVariables false
set_option linter.unusedSimpArgs false
namespace Go.Proofs.Ytpeghnhaekebdaa
open Go.RowKit

theorem catB (a b : List UInt8) : ByteArray.mk a.toArray ++ ByteArray.mk b.toArray = ⟨(a ++ b).toArray⟩ := by apply ByteArray.ext; simp [ByteArray.data_append]
theorem cat47B (a : List UInt8) : ByteArray.mk a.toArray ++ ByteArray.mk #[47] = ⟨(a ++ [47]).toArray⟩ := catB a [47]
theorem refUnder_any (p n : List UInt8) (w : World) (hp : p.length ≤ 1000000) (hn : n.length ≤ 1000000) :
    Calls Try.prog 51 #[.string ⟨p.toArray⟩, .string ⟨n.toArray⟩] w fun e w' => e = .returned (.string ⟨(underB p n).toArray⟩) ∧ w = w' := by
  cases h : (p == [47])
  · have HU : Hid (underB p n = p ++ [47] ++ n) := by (show _ = _); unfold underB; rw [if_neg (by simpa using h)]
    go_enter Try.func51, Try.ntmps51
    go_wp2
    all_goals first | (go_ret; exact ⟨by rw [HU.out, ← catB, ← cat47B]; rfl, rfl⟩) | (simp [ByteArray.size]; omega)
  · have HU : Hid (underB p n = p ++ n) := by (show _ = _); unfold underB; rw [if_pos (by simpa using h)]
    go_enter Try.func51, Try.ntmps51
    go_wp2
    all_goals first | (go_ret; exact ⟨by rw [HU.out, ← catB]; rfl, rfl⟩) | (simp [ByteArray.size]; omega)

theorem infoS2 : (Try.prog.info? 44).map (fun i => (i.zero, i.size, i.bytes)) = some (some (.agg #[.string ⟨#[]⟩, .int .i64 0]), 2, 24) := by kernel_rfl
theorem ents_src {w : World} {base : Nat} {e : TypeId} {a : Option Addr} {n cap : Nat} {l : List Ent} (h : w.ownsRow base e 2 (.slice a n cap) n (entsV l)) : ∀ ad, a = some ad → ∀ j u, (entsV l)[j]? = some u → w.cell? (ad.add j) = some u := by
  intro ad had j u hj
  have hl : 0 < l.length := by
    rcases Nat.eq_zero_or_pos l.length with h0 | h0
    · rw [List.eq_nil_of_length_eq_zero h0] at hj; simp [entsV] at hj
    · exact h0
  obtain ⟨ad', e1, _, h3⟩ := (own_ents h).src hl
  obtain rfl : ad = ad' := by rw [had] at e1; exact Option.some.inj e1
  exact h3 j u hj
theorem own_none {w : World} {base : Nat} {e : TypeId} {size : Nat} {a : Option Addr} {n cap : Nat} {xs : List Value} (h : w.ownsRow base e size (.slice a n cap) n xs) : a = none → n = 0 ∧ cap = 0 := by
  rintro rfl
  rcases own_cases h with ⟨h1, h2, _⟩ | ⟨g, c, h1, _⟩
  · simp at h1; exact ⟨h2, h1.2⟩
  · simp at h1

set_option maxHeartbeats 8000000 in
set_option maxRecDepth 100000 in
theorem refBelow_any (mi mb nx : Int) (l : List Nd) (v : Value) (hsh : ∀ x ∈ l, shortP 300 x.ents) (hl : l.length ≤ 1000000) : ∀ (d : Nat) (i : Int) (p : List UInt8) (deep : Int) (w : World), Nds w v l → deep + 1 = (d : Int) → p.length + d * 301 ≤ 1000000 → (belowN l d i p).length ≤ 1000000 →
    Calls Try.prog 37 #[.agg (fsC mi mb nx v), .int .i64 i, .string ⟨p.toArray⟩, .int .i64 deep] w fun e w' => ∃ y, e = .returned y ∧ w'.ownsRow w.heap.size 44 2 y (belowN l d i p).length (entsV (belowN l d i p)) ∧ Below w.heap.size w w' := by
  intro d
  induction d with
  | zero =>
    intro i p deep w hv hd hp ht
    obtain ⟨a, ca, rfl⟩ := nds_slice hv
    obtain rfl : deep = -1 := by omega
    have bF := Blk.new w 24 (fsC mi mb nx (.slice a l.length ca))
    have hB := alloc_below w (.cells (fsC mi mb nx (.slice a l.length ca)) 24)
    have nV := hv.below hB
    obtain ⟨ag, ng, cg, hgs⟩ := get_slice hv i
    clear hv
    have hG := refGetT_any mi mb nx i l _ _ nV
    generalize getN l i = G at *
    obtain ⟨gi, gk, gl, gd, gp, ge, gn⟩ := G
    dsimp only at hgs
    subst hgs
    generalize hasN l i = r at *
    have HN : Hid ((belowN l 0 i p) = []) := rfl
    obtain ⟨⟨p0, p1, p2, p3⟩, _⟩ := bF.four
    go_enter Try.func37, Try.ntmps37
    go_wp2_with fail
    refine hG.mono ?_
    rintro e w2 ⟨rfl, b2⟩
    clear hG
    have hB2 := hB.trans (b2.mono hB.size)
    have hB3 := hB2.alloc hB2.size (.cells (ndC ⟨gi, gk, gl, gd, gp, .slice ag ng cg, gn⟩) 33)
    cases r
    · go_wp2
      go_ret
      exact ⟨_, rfl, by rw [HN.out]; exact World.ownsRow_nil _ _ _ _, hB3⟩
    · go_wp2
      go_ret
      exact ⟨_, rfl, by rw [HN.out]; exact World.ownsRow_nil _ _ _ _, hB3⟩
  | succ d IH =>
    intro i p deep w hv hd hp ht
    obtain ⟨i0, hi, hz0, hz1, hz2⟩ := info_parts infoS2
    obtain ⟨a, ca, rfl⟩ := nds_slice hv
    have bF := Blk.new w 24 (fsC mi mb nx (.slice a l.length ca))
    have hB := alloc_below w (.cells (fsC mi mb nx (.slice a l.length ca)) 24)
    have nV := hv.below hB
    have HV := Lib.hid hv
    obtain ⟨ag, ng, cg, hgs⟩ := get_slice hv i
    have hge := get_ents hv.all i
    have hgsh : shortP 300 (getN l i).ents := by
      intro e he
      cases hh : hasN l i
      · rw [getN_none hh] at he; cases he
      · exact hsh _ (get_mem hh).1 e he
    clear hv
    have hG := refGetT_any mi mb nx i l _ _ nV
    have hnx := fun k (h : k < (getN l i).ents.length) => gone_next (l := l) (d := d) (i := i) (p := p) h
    have hen := gone_end (l := l) (d := d) (i := i) (p := p)
    have hle := fun h k => Nat.le_trans (gone_le (l := l) (d := d) (i := i) (p := p) h k) ht
    have hz := gone_zero l d i p
    have hno := below_no (l := l) (d := d + 1) (i := i) (p := p)
    have HNX := Lib.hid hnx
    have HEN := Lib.hid hen
    clear hnx hen
    generalize getN l i = G at *
    obtain ⟨gi, gk, gl, gd, gp, ge, gn⟩ := G
    dsimp only at hgs hge hgsh
    subst hgs
    obtain ⟨ag2, cg2, hgs, hE1, hE2, hE3⟩ := id hge
    simp only [Value.slice.injEq] at hgs
    obtain ⟨rfl, rfl, rfl⟩ := hgs
    unfold maxLen at hE2
    have HE := Lib.hid hE3
    clear hE3 hge
    obtain ⟨⟨p0, p1, p2, p3⟩, _⟩ := bF.four
    go_enter Try.func37, Try.ntmps37
    go_wp2_with fail
    refine hG.mono ?_
    rintro e w2 ⟨rfl, b2⟩
    clear hG
    have hB2 := hB.trans (b2.mono hB.size)
    have b3 := alloc_below w2 (.cells (ndC ⟨gi, gk, gl, gd, gp, .slice ag gn.length cg, gn⟩) 33)
    have hB3 := hB2.trans (b3.mono hB2.size)
    have F3 := (bF.next b2).next b3
    have X3 := Blk.new w2 33 (ndC ⟨gi, gk, gl, gd, gp, .slice ag gn.length cg, gn⟩)
    have hdn : ¬ deep < 0 := by omega
    cases hr : hasN l i
    · have HN := Lib.hid (hno hr)
      go_wp2
      go_ret
      exact ⟨_, rfl, by rw [HN.out]; exact World.ownsRow_nil _ _ _ _, hB3⟩
    · have HR := Lib.hid hr
      have HEN2 := Lib.hid (HEN.out hr)
      have HLE := Lib.hid (hle hr)
      have HZ := Lib.hid hz
      clear hno hle hz HEN p0 p1 p2 p3 b2 bF nV hB hB2 ht
      go_upto_region 4 with fail
      generalize hw3 : w2.alloc (.cells (ndC ⟨gi, gk, gl, gd, gp, .slice ag gn.length cg, gn⟩) 33) = w3 at *
      have hXlt := X3.lt
      clear hw3 b3 hr
      generalize w2.heap.size = BX at *
      have own0 : (w3.alloc (.cells #[.string ⟨p.toArray⟩, .int .i64 i] 44)).ownsRow w3.heap.size 44 2 (.slice (some ⟨w3.heap.size, 0, none⟩) 1 1) 1 (entsV [(p, i)]) := World.ownsRow_lit _ #[.string ⟨p.toArray⟩, .int .i64 i] 1 (Nat.le_refl _) (by decide) rfl
      have b4 := alloc_below w3 (.cells #[.string ⟨p.toArray⟩, .int .i64 i] 44)
      go_wp2
      go_loopw [11, 12] (fun s11 s12 wr => ∃ k : Nat, k ≤ gn.length ∧ s12 = .int .i64 k ∧ Below w3.heap.size w3 wr ∧ Aside (wr.ownsRow w3.heap.size 44 2 s11 (goneN l d i p k).length (entsV (goneN l d i p k)))) (fun _ s12 _ => gn.length - (intOf s12).toNat)
      case atStart => exact ⟨0, Nat.zero_le _, rfl, b4, by (show World.ownsRow _ _ _ _ _ _ _); rw [HZ.out]; exact own0⟩
      case round =>
        clear own0 b4
        obtain ⟨k, hk, rfl, hbw, HO⟩ := hrel
        obtain ⟨a3, c3, rfl⟩ := own_slice HO.out
        have x5 := (X3.next hbw).six.1.2.2.2.2.2
        dsimp only at x5
        by_cases hlt : k < gn.length
        · obtain ⟨be, oe, rfl, hbe, hce⟩ := HE.out (by omega)
          have hd01 := hce k hlt
          clear hce
          have hnm := hgsh _ (List.getElem_mem hlt)
          have hnx := HNX.out k hlt
          have hl1 := HLE.out (k + 1)
          generalize gn[k] = en at *
          obtain ⟨nm, z⟩ := en
          dsimp only at hd01 hnm hnx
          have HD := Lib.hid hd01
          have HNX1 := Lib.hid hnx
          rw [hnx, List.length_append] at hl1
          have k0 : (0 : Int) ≤ (k : Int) := by omega
          have k1 : (k : Int) < (gn.length : Int) := by omega
          have hun := under_len p nm
          have hde : IntKind.i64.wrap (deep - 1) = deep - 1 := by rw [IntKind.wrap_i64]; omega
          have HMK : ∀ W, Below w3.heap.size w3 W → (W.cell? ⟨w.heap.size, 0, none⟩ = some (.int .i64 mi) ∧ W.cell? ⟨w.heap.size, 1, none⟩ = some (.int .i64 mb) ∧ W.cell? ⟨w.heap.size, 2, none⟩ = some (.int .i64 nx) ∧ W.cell? ⟨w.heap.size, 3, none⟩ = some (.slice a l.length ca) ∧ W.cell? ⟨BX, 5, none⟩ = some (.slice (some ⟨be, oe, none⟩) gn.length cg) ∧
              W.cell? ⟨be, oe + k * 2, none⟩ = some (.string ⟨nm.toArray⟩) ∧ W.cell? ⟨be, oe + k * 2 + 1, none⟩ = some (.int .i64 z)) := by
            intro W h
            obtain ⟨⟨x0, x1, x2, x3⟩, _⟩ := (F3.next h).four
            have h2 := hB3.trans (h.mono hB3.size)
            exact ⟨x0, x1, x2, x3, (X3.next h).six.1.2.2.2.2.2, (h2.cell (p := ⟨be, oe + k * 2, none⟩) hbe).trans HD.out.1, (h2.cell (p := ⟨be, oe + k * 2 + 1, none⟩) hbe).trans HD.out.2⟩
          have hq := hbw.drew
          have hO : wr.drew.ownsRow w3.heap.size 44 2 (.slice a3 (goneN l d i p k).length c3) (goneN l d i p k).length (entsV (goneN l d i p k)) := HO.out
          clear x5 hd01 hnx
          go_upto_region 8 with fail
          go_region_held3 (fun W => W.cell? ⟨w.heap.size, 0, none⟩ = some (.int .i64 mi) ∧ W.cell? ⟨w.heap.size, 1, none⟩ = some (.int .i64 mb) ∧ W.cell? ⟨w.heap.size, 2, none⟩ = some (.int .i64 nx) ∧ W.cell? ⟨w.heap.size, 3, none⟩ = some (.slice a l.length ca) ∧ W.cell? ⟨BX, 5, none⟩ = some (.slice (some ⟨be, oe, none⟩) gn.length cg) ∧
              W.cell? ⟨be, oe + k * 2, none⟩ = some (.string ⟨nm.toArray⟩) ∧ W.cell? ⟨be, oe + k * 2 + 1, none⟩ = some (.int .i64 z))
            (first | with_reducible exact HMK _ hq | with_reducible exact HMK _ (hq.trans hb5))
            (first
              | (go_at_call 51; refine (refUnder_any p nm _ (by omega) (by omega)).mono ?_; rintro e wz ⟨rfl, rfl⟩)
              | (go_at_call 37; refine (IH z (underB p nm) (deep - 1) _ (HV.out.below (hB3.trans (hq.mono hB3.size))) (by omega) (by omega) (by omega)).mono ?_; rintro e wz ⟨y, rfl, hown2, bz⟩; obtain ⟨ay, cy, rfl⟩ := own_slice hown2; have hO := own_keep hO bz; have hq := hq.trans (bz.mono hq.size))
              | (refine step_append_any (by rfl) (.tmp 36) (.tmp 54) 41 44 (by rfl) Try.underlying41 hi hz0 hz1 hz2 rfl (by decide) (by decide) w3.heap.size ay _ cy _ (by rfl) (by rfl) hO (own_none hown2) (entsV_len _) (ents_src hown2) (entsV_one _) (by omega) hq.size ?_; intro v5 w5 hown5 hb5))
          all_goals (go_wp2_with fail; go_roundw)
          all_goals first | omega | exact ⟨k + 1, by omega, by go_num, hq.trans hb5, by (show World.ownsRow _ _ _ _ _ _ _); rw [HNX1.out, List.length_append, entsV_append]; exact hown5⟩ | (simp [intOf]; omega)
        · obtain rfl : k = gn.length := by omega
          have HF := Lib.hid HEN2.out
          go_wp2
          go_ret
          have hO := HO.out
          exact ⟨_, rfl, by rw [← HF.out]; exact own_base hO hB3.size, hB3.trans (hbw.mono hB3.size)⟩

set_option maxHeartbeats 2000000 in
theorem refList_any (mi mb nx : Int) (l : List Nd) (v : Value) (w : World) (hv : Nds w v l) (hsh : ∀ x ∈ l, shortP 300 x.ents) (hl : l.length ≤ 1000) (ht : (listN l).length ≤ 1000000) :
    Calls Try.prog 20 #[.agg (fsC mi mb nx v)] w fun e w' => ∃ y, e = .returned y ∧ w'.ownsRow w.heap.size 44 2 y (listN l).length (entsV (listN l)) ∧ Below w.heap.size w w' := by
  obtain ⟨a, ca, rfl⟩ := nds_slice hv
  have bF := Blk.new w 24 (fsC mi mb nx (.slice a l.length ca))
  have hB := alloc_below w (.cells (fsC mi mb nx (.slice a l.length ca)) 24)
  have hC := refBelow_any mi mb nx l _ hsh (by omega) (l.length + 1) 1 [47] (l.length : Int) _ (hv.below hB) (by omega) (by simp; omega) ht
  obtain ⟨⟨p0, p1, p2, p3⟩, _⟩ := bF.four
  go_enter Try.func20, Try.ntmps20
  go_wp2_with fail
  refine hC.mono ?_
  rintro e w2 ⟨y, rfl, hown, b2⟩
  go_wp2
  go_ret
  exact ⟨_, rfl, own_base hown (by simp), hB.trans (b2.mono hB.size)⟩

end Go.Proofs.Ytpeghnhaekebdaa

/- Shapes, as lists, and slices of them. -/
set_option linter.unusedVariables false
set_option linter.unusedSimpArgs false
namespace Go.Proofs.Ytpeghnhaekebdaa
open Go.RowKit

structure Shp where
  path : List UInt8
  kind : Int
  data : List UInt8
  first : Int
deriving DecidableEq
instance : Inhabited Shp := ⟨⟨[], 0, [], 0⟩⟩
/-- The place of the first line of the same inode. -/
def firstE (L : List Ent) (i : Int) : Nat := L.findIdx (fun e => e.2 == i)
def shpOf (l : List Nd) (L : List Ent) (e : Ent) : Shp := ⟨e.1, (getN l e.2).kind, (getN l e.2).data, (firstE L e.2 : Nat)⟩
def shapeN (l : List Nd) : List Shp := (listN l).map (shpOf l (listN l))
theorem shape_len (l : List Nd) : (shapeN l).length = (listN l).length := by unfold shapeN; rw [List.length_map]
theorem shape_next {l : List Nd} {L : List Ent} {k : Nat} (h : k < L.length) : (L.take (k + 1)).map (shpOf l L) = (L.take k).map (shpOf l L) ++ [shpOf l L L[k]] := by
  rw [List.take_succ_eq_append_getElem h, List.map_append]; rfl
/-- The lines of the first k steps. -/
def shpT (l : List Nd) (L : List Ent) (k : Nat) : List Shp := (L.take k).map (shpOf l L)
theorem shpT_next {l : List Nd} {L : List Ent} {k : Nat} (h : k < L.length) : shpT l L (k + 1) = shpT l L k ++ [shpOf l L L[k]] := shape_next h
theorem shpT_len (l : List Nd) (L : List Ent) (k : Nat) : (shpT l L k).length ≤ L.length := by
  unfold shpT
  rw [List.length_map, List.length_take]
  omega
theorem shpT_end (l : List Nd) : shapeN l = shpT l (listN l) (listN l).length := by
  unfold shpT
  rw [List.take_length]; rfl
theorem first_le {L : List Ent} {k : Nat} (h : k < L.length) : firstE L L[k].2 ≤ k := by
  unfold firstE
  rcases Nat.lt_or_ge k (L.findIdx (fun e => e.2 == L[k].2)) with h2 | h2
  · have := List.not_of_lt_findIdx h2
    simp at this
  · exact h2
theorem first_at {L : List Ent} {i : Int} (h : firstE L i < L.length) : (L[firstE L i]).2 = i := by
  have h2 : (fun e : Ent => e.2 == i) (L[firstE L i]) = true := List.findIdx_getElem (w := h)
  simpa using h2
theorem first_not {L : List Ent} {i : Int} {j : Nat} (h : j < firstE L i) (hj : j < L.length) : L[j].2 ≠ i := by
  have := List.not_of_lt_findIdx h
  simpa using this

/-! ### Slices of shapes -/
abbrev shpC (s : Shp) : Array Value := #[.string ⟨s.path.toArray⟩, .int .i64 s.kind, .string ⟨s.data.toArray⟩, .int .i64 s.first]
def shpsV : List Shp → List Value
  | [] => []
  | s :: l => .string ⟨s.path.toArray⟩ :: .int .i64 s.kind :: .string ⟨s.data.toArray⟩ :: .int .i64 s.first :: shpsV l
theorem shpsV_len (l : List Shp) : (shpsV l).length = l.length * 4 := by
  induction l with
  | nil => rfl
  | cons s r ih => simp only [shpsV, List.length_cons, ih]; omega
theorem shpsV_append (a b : List Shp) : shpsV (a ++ b) = shpsV a ++ shpsV b := by
  induction a with
  | nil => rfl
  | cons s r ih => simp only [List.cons_append, shpsV, ih]
theorem shpsV_at (l : List Shp) : ∀ (i : Nat) (h : i < l.length), (shpsV l)[i * 4]? = some (.string ⟨l[i].path.toArray⟩) ∧ (shpsV l)[i * 4 + 1]? = some (.int .i64 l[i].kind) ∧ (shpsV l)[i * 4 + 2]? = some (.string ⟨l[i].data.toArray⟩) ∧ (shpsV l)[i * 4 + 3]? = some (.int .i64 l[i].first) := by
  induction l with
  | nil => intro i h; cases h
  | cons c r ih =>
    intro i h
    cases i with
    | zero => exact ⟨rfl, rfl, rfl, rfl⟩
    | succ j =>
      have := ih j (by simpa using h)
      rw [show (j + 1) * 4 = j * 4 + 4 from by omega]
      exact this
def ShAt (w : World) (b o : Nat) (s : Shp) : Prop :=
  w.cell? ⟨b, o, none⟩ = some (.string ⟨s.path.toArray⟩) ∧ w.cell? ⟨b, o + 1, none⟩ = some (.int .i64 s.kind) ∧ w.cell? ⟨b, o + 2, none⟩ = some (.string ⟨s.data.toArray⟩) ∧ w.cell? ⟨b, o + 3, none⟩ = some (.int .i64 s.first)
theorem ShAt.below {w w' : World} {b o n : Nat} {s : Shp} (h : ShAt w b o s) (hb : Below n w w') (hn : b < n) : ShAt w' b o s :=
  ⟨(hb.cell (p := ⟨b, o, none⟩) hn).trans h.1, (hb.cell (p := ⟨b, o + 1, none⟩) hn).trans h.2.1, (hb.cell (p := ⟨b, o + 2, none⟩) hn).trans h.2.2.1, (hb.cell (p := ⟨b, o + 3, none⟩) hn).trans h.2.2.2⟩
/-- A slice that reads as these shapes. -/
def Shps (w : World) (v : Value) (l : List Shp) : Prop :=
  ∃ a cap, v = .slice a l.length cap ∧ l.length ≤ cap ∧ cap ≤ maxLen ∧ (0 < l.length → ∃ b off, a = some ⟨b, off, none⟩ ∧ b < w.heap.size ∧ ∀ i (h : i < l.length), ShAt w b (off + i * 4) l[i])
theorem Shps.below {w w' : World} {v : Value} {l : List Shp} (h : Shps w v l) (hb : Below w.heap.size w w') : Shps w' v l := by
  obtain ⟨a, c, rfl, h1, h2, h3⟩ := h
  refine ⟨a, c, rfl, h1, h2, fun hp => ?_⟩
  obtain ⟨b, o, rfl, hb2, hx⟩ := h3 hp
  exact ⟨b, o, rfl, Nat.lt_of_lt_of_le hb2 hb.size, fun i hi => (hx i hi).below hb hb2⟩
theorem Shps.nil_ (w : World) : Shps w (.slice none 0 0) [] := ⟨none, 0, rfl, Nat.zero_le _, Nat.zero_le _, fun h => absurd h (by simp)⟩
theorem own_shps {w : World} {base : Nat} {e : TypeId} {v : Value} {n : Nat} {l : List Shp} (h : w.ownsRow base e 4 v n (shpsV l)) : Shps w v l := by
  have hlen := h.1
  rw [shpsV_len] at hlen
  obtain rfl : n = l.length := by omega
  rcases h.2 with ⟨rfl, h0⟩ | ⟨g, cap, cur, rfl, hg, hh, hnc, hcm, hsz, htk⟩
  · have : l = [] := List.eq_nil_of_length_eq_zero h0
    subst this
    exact Shps.nil_ w
  · refine ⟨_, cap, rfl, hnc, hcm, fun _ => ⟨g, 0, rfl, (h.lt g rfl).2, fun i hi => ?_⟩⟩
    have c0 := h.cellAt (i * 4) (by omega)
    have c1 := h.cellAt (i * 4 + 1) (by omega)
    have c2 := h.cellAt (i * 4 + 2) (by omega)
    have c3 := h.cellAt (i * 4 + 3) (by omega)
    rw [(shpsV_at l i hi).1] at c0
    rw [(shpsV_at l i hi).2.1] at c1
    rw [(shpsV_at l i hi).2.2.1] at c2
    rw [(shpsV_at l i hi).2.2.2] at c3
    rw [Nat.zero_add]
    exact ⟨c0, c1, c2, c3⟩
theorem blk_shps {w : World} {g : Nat} {t : TypeId} {L : List Shp} (h : Blk w g t (shpsV L).toArray) (hl : L.length ≤ maxLen) : Shps w (.slice (some ⟨g, 0, none⟩) L.length L.length) L := by
  refine ⟨_, _, rfl, Nat.le_refl _, hl, fun _ => ⟨g, 0, rfl, h.lt, fun i hi => ?_⟩⟩
  have := shpsV_at L i hi
  refine ⟨?_, ?_, ?_, ?_⟩
  · rw [h.cell, Nat.zero_add]; simpa using this.1
  · rw [h.cell, Nat.zero_add]; simpa using this.2.1
  · rw [h.cell, Nat.zero_add]; simpa using this.2.2.1
  · rw [h.cell, Nat.zero_add]; simpa using this.2.2.2
end Go.Proofs.Ytpeghnhaekebdaa

/- Walks: the document's Lines: are two shapes the same? -/
set_option linter.unusedVariables false
set_option linter.unusedSimpArgs false
namespace Go.Proofs.Ytpeghnhaekebdaa
open Go.RowKit

set_option maxHeartbeats 4000000 in
theorem refLines_any (la lb : List Shp) (va vb : Value) (w : World) (ha : Shps w va la) (hb : Shps w vb lb) :
    Calls Try.prog 8 #[va, vb] w fun e w' => e = .returned (.bool (decide (la = lb))) ∧ Below w.heap.size w w' := by
  obtain ⟨a, ca, rfl, hca, hma, HA⟩ := ha
  obtain ⟨b, cb, rfl, hcb, hmb, HB⟩ := hb
  unfold maxLen at hma hmb
  by_cases hl : la.length = lb.length
  · have HA' := Lib.hid HA
    have HB' := Lib.hid HB
    clear HA HB
    have hne : ((la.length : Int) != (lb.length : Int)) = false := by simp; omega
    have HL := Lib.hid hl
    have hl2 : la.length ≤ lb.length := by omega
    clear hl
    go_enter Try.func8, Try.ntmps8
    go_wp2
    go_loopw [5] (fun i wr => ∃ k : Nat, k ≤ la.length ∧ i = .int .i64 k ∧ Aside (la.take k = lb.take k) ∧ Below w.heap.size w wr) (fun i _ => la.length - (intOf i).toNat)
    case atStart => exact ⟨0, Nat.zero_le _, rfl, rfl, Below.refl _ _⟩
    case round =>
      obtain ⟨k, hk, rfl, HT, hbw⟩ := hrel
      by_cases hlt : k < la.length
      · have hltb : k < lb.length := by omega
        obtain ⟨ba, oa, rfl, hba, hxa⟩ := HA'.out (by omega)
        obtain ⟨bb, ob, rfl, hbb, hxb⟩ := HB'.out (by omega)
        obtain ⟨c1, c2, c3, c4⟩ := (hxa k hlt).below hbw hba
        obtain ⟨d1, d2, d3, d4⟩ := (hxb k hltb).below hbw hbb
        clear hxa hxb
        have k0 : (0 : Int) ≤ (k : Int) := by omega
        have k1 : (k : Int) < (la.length : Int) := by omega
        have k2 : (k : Int) < (lb.length : Int) := by omega
        cases hp : la[k].path == lb[k].path
        · have hne2 : Hid (decide (la = lb) = false) := by
            show _ = _
            rw [decide_eq_false_iff_not]
            intro e
            subst e
            simp at hp
          go_wp2
          go_quiet (fail)
          go_wp2
          go_ret
          exact ⟨by rw [hne2.out]; rfl, below_drewN hbw _⟩
        cases hn : la[k].kind == lb[k].kind
        · have hne2 : Hid (decide (la = lb) = false) := by
            show _ = _
            rw [decide_eq_false_iff_not]
            intro e
            subst e
            simp at hn
          go_wp2
          go_quiet (fail)
          go_wp2
          go_ret
          exact ⟨by rw [hne2.out]; rfl, below_drewN hbw _⟩
        cases hd : la[k].data == lb[k].data
        · have hne2 : Hid (decide (la = lb) = false) := by
            show _ = _
            rw [decide_eq_false_iff_not]
            intro e
            subst e
            simp at hd
          go_wp2
          go_quiet (fail)
          go_wp2
          go_ret
          exact ⟨by rw [hne2.out]; rfl, below_drewN hbw _⟩
        cases hf : la[k].first == lb[k].first
        · have hne2 : Hid (decide (la = lb) = false) := by
            show _ = _
            rw [decide_eq_false_iff_not]
            intro e
            subst e
            simp at hf
          go_wp2
          go_quiet (fail)
          go_wp2
          go_ret
          exact ⟨by rw [hne2.out]; rfl, below_drewN hbw _⟩
        have HT2 : Hid (la.take (k + 1) = lb.take (k + 1)) := by
          show _ = _
          rw [List.take_succ_eq_append_getElem hlt, List.take_succ_eq_append_getElem hltb, HT.out]
          rw [beq_iff_eq] at hp hn hd hf
          have : la[k] = lb[k] := by
            generalize la[k] = x at *
            generalize lb[k] = y at *
            obtain ⟨x1, x2, x3, x4⟩ := x
            obtain ⟨y1, y2, y3, y4⟩ := y
            dsimp only at hp hn hd hf
            rw [hp, hn, hd, hf]
          rw [this]
        go_wp2
        go_quiet (fail)
        go_wp2
        go_roundw
        case rel => exact ⟨k + 1, by omega, by go_num, HT2.out, below_drewN hbw _⟩
        case measure => simp [intOf]; omega
      · obtain rfl : k = la.length := by omega
        have heq : Hid (decide (la = lb) = true) := by
          show _ = _
          rw [decide_eq_true_eq]
          have := HT.out
          rw [List.take_length, HL.out, List.take_length] at this
          exact this
        clear HT
        go_wp2
        go_ret
        exact ⟨by rw [heq.out]; rfl, hbw⟩
  · have hne : ((la.length : Int) != (lb.length : Int)) = true := by rw [bne_iff_ne]; omega
    have hd : Hid (decide (la = lb) = false) := by
      show _ = _
      rw [decide_eq_false_iff_not]; rintro rfl; exact hl rfl
    clear HA HB
    go_enter Try.func8, Try.ntmps8
    go_wp2
    go_ret
    exact ⟨by rw [hd.out]; rfl, Below.refl _ _⟩
end Go.Proofs.Ytpeghnhaekebdaa

/- Walks: the document's shape of a file system. -/
set_option linter.unusedVariables false
set_option linter.unusedSimpArgs false
namespace Go.Proofs.Ytpeghnhaekebdaa
open Go.RowKit

theorem infoSh : (Try.prog.info? 37).map (fun i => (i.zero, i.size, i.bytes)) = some (some (.agg #[.string ⟨#[]⟩, .int .i64 0, .string ⟨#[]⟩, .int .i64 0]), 4, 48) := by kernel_rfl

set_option maxHeartbeats 8000000 in
set_option maxRecDepth 100000 in
theorem refOf_any (mi mb nx : Int) (l : List Nd) (v : Value) (w : World) (hv : Nds w v l) (hsh : ∀ x ∈ l, shortP 300 x.ents) (hl : l.length ≤ 1000) (ht : (listN l).length ≤ 1000000) :
    Calls Try.prog 10 #[.agg (fsC mi mb nx v)] w fun e w' => ∃ y, e = .returned y ∧ w'.ownsRow w.heap.size 37 4 y (shapeN l).length (shpsV (shapeN l)) ∧ Below w.heap.size w w' := by
  obtain ⟨i0, hi, hz0, hz1, hz2⟩ := info_parts infoSh
  obtain ⟨a, ca, rfl⟩ := nds_slice hv
  have bF := Blk.new w 24 (fsC mi mb nx (.slice a l.length ca))
  have hB := alloc_below w (.cells (fsC mi mb nx (.slice a l.length ca)) 24)
  have nV := hv.below hB
  have hC := refList_any mi mb nx l _ _ nV hsh hl ht
  have HP : Hid (shapeN l = shpT l (listN l) (listN l).length) := shpT_end l
  generalize listN l = L at *
  obtain ⟨⟨p0, p1, p2, p3⟩, _⟩ := bF.four
  go_enter Try.func10, Try.ntmps10
  go_wp2_with fail
  refine hC.mono ?_
  rintro e w2 ⟨y, rfl, hown, b2⟩
  have hE := own_ents hown
  have hB2 := hB.trans (b2.mono hB.size)
  replace bF := bF.next b2
  have HV := Lib.hid (nV.below b2)
  obtain ⟨ay, cy, rfl, hE1, hE2, hE3⟩ := id hE
  unfold maxLen at hE2
  have HE := Lib.hid hE3
  have HBF := Lib.hid bF
  have hFl := bF.lt
  clear hC p0 p1 p2 p3 hE3 hown hE b2 hv nV hB bF
  go_wp2
  go_loopw [4, 5] (fun s4 s5 wr => ∃ k : Nat, k ≤ L.length ∧ s5 = .int .i64 k ∧ Below w2.heap.size w2 wr ∧ Aside (wr.ownsRow w2.heap.size 37 4 s4 (shpT l L k).length (shpsV (shpT l L k)))) (fun _ s5 _ => L.length - (intOf s5).toNat)
  case atStart => exact ⟨0, Nat.zero_le _, rfl, Below.refl _ _, World.ownsRow_nil _ _ _ _⟩
  case round =>
    obtain ⟨k, hk, rfl, hbw, HO⟩ := hrel
    obtain ⟨a4, c4, rfl⟩ := own_slice HO.out
    by_cases hlt : k < L.length
    · obtain ⟨b, o, rfl, hb, hcl⟩ := HE.out (by omega)
      have hnx := shpT_next (l := l) hlt
      unfold shpOf at hnx
      have hfl := first_le hlt
      have hlen := Nat.le_trans (shpT_len l L k) ht
      have HCL := Lib.hid hcl
      have hck := (hcl k hlt)
      clear hcl
      generalize shpT l L k = F at *
      generalize hen : L[k] = en at *
      obtain ⟨pa, z⟩ := en
      dsimp only at hck hfl hnx
      have HNX := Lib.hid hnx
      clear hnx
      have k0 : (0 : Int) ≤ (k : Int) := by omega
      have k1 : (k : Int) < (L.length : Int) := by omega
      have hGc := fun W (h : Below wr.heap.size wr W) => refGetT_any mi mb nx z l (.slice a l.length ca) W (HV.out.below (hbw.trans (h.mono hbw.size)))
      obtain ⟨ag, ng, cg, hgs⟩ := get_slice HV.out z
      generalize getN l z = X at *
      obtain ⟨xi, xk, xl, xd, xp, xe, xn⟩ := X
      dsimp only at hgs
      subst hgs
      generalize hr : hasN l z = r at *
      have hdr : Below wr.heap.size wr wr.drew := (Below.refl _ _).drew
      have hdr2 : Below wr.heap.size wr (wr.alloc (.cells #[.int .i64 0, .int .i64 0, .int .i64 0, .string ⟨#[]⟩, .int .i64 0, .slice none 0 0] 33)).drew := ((Below.refl _ wr).alloc (Nat.le_refl _) _).drew
      have hbz : Blk (wr.alloc (.cells #[.int .i64 0, .int .i64 0, .int .i64 0, .string ⟨#[]⟩, .int .i64 0, .slice none 0 0] 33)).drew wr.heap.size 33 (ndC zeroN) := Blk.new wr 33 (ndC zeroN)
      have hG1 := hGc _ hdr
      have hG2 := hGc _ hdr2
      have HMK : ∀ W, Below wr.heap.size wr W → (W.cell? ⟨w.heap.size, 0, none⟩ = some (.int .i64 mi) ∧ W.cell? ⟨w.heap.size, 1, none⟩ = some (.int .i64 mb) ∧ W.cell? ⟨w.heap.size, 2, none⟩ = some (.int .i64 nx) ∧ W.cell? ⟨w.heap.size, 3, none⟩ = some (.slice a l.length ca) ∧ W.cell? ⟨b, o + k * 2 + 1, none⟩ = some (.int .i64 z)) := by
        intro W h0
        have h := hbw.trans (h0.mono hbw.size)
        obtain ⟨⟨x0, x1, x2, x3⟩, _⟩ := (HBF.out.next h).four
        exact ⟨x0, x1, x2, x3, (h.cell (p := ⟨b, o + k * 2 + 1, none⟩) hb).trans hck.2⟩
      have hq := hdr
      have hwz := hbw.size
      clear hr hGc
      go_upto_region 6 with fail
      go_cut [6, 7] from 17 to 53 (fun s6 s7 wc => ∃ B : Nat, s6 = .pointer (some ⟨B, 0, none⟩) ∧ s7 = .bool r ∧ Below wr.heap.size wr wc ∧ Aside (wr.heap.size ≤ B) ∧ Aside (Blk wc B 33 (ndC ⟨xi, xk, xl, xd, xp, .slice ag ng cg, xn⟩)))
      case first =>
        go_region_held3 (fun W => W.cell? ⟨w.heap.size, 0, none⟩ = some (.int .i64 mi) ∧ W.cell? ⟨w.heap.size, 1, none⟩ = some (.int .i64 mb) ∧ W.cell? ⟨w.heap.size, 2, none⟩ = some (.int .i64 nx) ∧ W.cell? ⟨w.heap.size, 3, none⟩ = some (.slice a l.length ca) ∧ W.cell? ⟨b, o + k * 2 + 1, none⟩ = some (.int .i64 z))
          (first | with_reducible exact HMK _ hq | with_reducible exact HMK _ (hq.alloc hq.size _) | with_reducible exact HMK _ hdr2 | with_reducible exact HMK _ (below_grown hq hgW (Nat.le_refl _) (Nat.le_refl _)))
          (first
            | (go_at_call 21; (with_reducible refine hG1.mono ?_); rintro e w6 ⟨rfl, b6⟩; have hq := hq.trans (b6.mono hq.size))
            | (go_at_call 21; (with_reducible refine hG2.mono ?_); rintro e w6 ⟨rfl, b6⟩; have hbx : Blk w6 wr.heap.size 33 (ndC zeroN) := hbz.next b6; have hq := hdr2.trans (b6.mono hdr2.size); obtain ⟨⟨x0, x1, x2, x3, x4, x5⟩, f0, f1, f2, f3, f4, f5⟩ := hbx.six; simp only [zeroN] at x0 x1 x2 x3 x4 x5; obtain ⟨W', hW', hbW, hgW⟩ := hbx.put6 ⟨xi, xk, xl, xd, xp, .slice ag ng cg, xn⟩; dsimp only at hW'))
        all_goals (go_wp2_with fail; go_meet)
        all_goals first
          | exact ⟨w6.heap.size, rfl, rfl, hq.alloc hq.size _, hq.size, Blk.new w6 33 (ndC ⟨xi, xk, xl, xd, xp, .slice ag ng cg, xn⟩)⟩
          | exact ⟨wr.heap.size, rfl, rfl, below_grown hq hgW (Nat.le_refl _) (Nat.le_refl _), Nat.le_refl _, hbW⟩
      case rest =>
        obtain ⟨B, rfl, rfl, hbc, hBl, HX⟩ := hcut
        have hnB : some B ≠ Value.ownBlock (.slice a4 F.length c4) := fun e => by have := (HO.out.lt B e.symm).2; have h2 := hBl.out; omega
        have hnb : some b ≠ Value.ownBlock (.slice a4 F.length c4) := fun e => by have := (HO.out.lt b e.symm).1; omega
        have hB6 := hbw.trans (hbc.mono hbw.size)
        have hO6 := own_keep HO.out hbc
        have hcl := fun j (h : j < L.length) => (show _ ∧ _ from ⟨(hB6.cell (p := ⟨b, o + j * 2, none⟩) hb).trans (HCL.out j h).1, (hB6.cell (p := ⟨b, o + j * 2 + 1, none⟩) hb).trans (HCL.out j h).2⟩)
        have HC6 := Lib.hid hcl
        have hXl := HX.out.lt
        clear hG1 hG2 HMK hdr hdr2 hbz hq hck hcl HO hbc
        have HO6 := Lib.hid hO6
        clear hO6
        go_wp2
        go_loopw [8] (fun s8 wq => ∃ j : Nat, j ≤ firstE L z ∧ s8 = .int .i64 j ∧ Below wc.heap.size wc wq) (fun s8 _ => L.length - (intOf s8).toNat)
        case atStart => exact ⟨0, Nat.zero_le _, rfl, Below.refl _ _⟩
        case round =>
          obtain ⟨j, hj, rfl, hbq⟩ := hrel
          have hjL : j < L.length := by omega
          have cj := (hbq.cell (p := ⟨b, o + j * 2 + 1, none⟩) (Nat.lt_of_lt_of_le hb hB6.size)).trans (HC6.out j hjL).2
          have ck := (hbq.cell (p := ⟨b, o + k * 2 + 1, none⟩) (Nat.lt_of_lt_of_le hb hB6.size)).trans (HC6.out k hlt).2
          rw [hen] at ck
          dsimp only at ck
          have j0 : (0 : Int) ≤ (j : Int) := by omega
          have j1 : (j : Int) < (L.length : Int) := by omega
          by_cases he : L[j].2 = z
          · have hjf : j = firstE L z := Decidable.byContradiction fun hn => first_not (j := j) (by omega) hjL he
            rw [he] at cj
            have hz : (z != z) = false := by simp
            have HJ := Lib.hid hjf
            clear hjf he
            go_wp2
            go_quiet (fail)
            go_upto_region 10 with fail
            have hbd := below_drewN hbq nq
            generalize wr.drewN nq = wd at *
            have HMK : ∀ W, Below wc.heap.size wc W → (fun W => W.cell? ⟨b, o + k * 2, none⟩ = some (.string ⟨pa.toArray⟩) ∧ W.cell? ⟨B, 1, none⟩ = some (.int .i64 xk) ∧ W.cell? ⟨B, 3, none⟩ = some (.string ⟨xd.toArray⟩)) W := by
              intro W h
              have c0 := (h.cell (p := ⟨b, o + k * 2, none⟩) (Nat.lt_of_lt_of_le hb hB6.size)).trans (HC6.out k hlt).1
              rw [hen] at c0
              have hx := (HX.out.next h).six.1
              exact ⟨c0, hx.2.1, hx.2.2.2.1⟩
            have hq : Below wc.heap.size wc wd.drew := hbd.drew
            have hO := own_keep HO6.out hbd
            have hbs : w2.heap.size ≤ wd.heap.size := Nat.le_trans hB6.size hbd.size
            have hO8 := (hO.alloc (.cells #[.string ⟨pa.toArray⟩, .int .i64 xk, .string ⟨xd.toArray⟩, .int .i64 (j : Int)] 37)).drew
            have HS8 := HMK _ ((hbd.alloc hbd.size (.cells #[.string ⟨pa.toArray⟩, .int .i64 xk, .string ⟨xd.toArray⟩, .int .i64 (j : Int)] 37)).drew)
            have hCB : ∀ (q : Nat) (u : Value), ([.string ⟨pa.toArray⟩, .int .i64 xk, .string ⟨xd.toArray⟩, .int .i64 (j : Int)] : List Value)[q]? = some u → (wd.alloc (.cells #[.string ⟨pa.toArray⟩, .int .i64 xk, .string ⟨xd.toArray⟩, .int .i64 (j : Int)] 37)).drew.cell? ((⟨wd.heap.size, 0, none⟩ : Addr).add q) = some u := cells_block wd _ _
            have hbs8 : w2.heap.size ≤ (wd.alloc (.cells #[.string ⟨pa.toArray⟩, .int .i64 xk, .string ⟨xd.toArray⟩, .int .i64 (j : Int)] 37)).drew.heap.size := Nat.le_trans hbs (by simp)
            clear cj ck HC6
            go_region_held3 (fun W => W.cell? ⟨b, o + k * 2, none⟩ = some (.string ⟨pa.toArray⟩) ∧ W.cell? ⟨B, 1, none⟩ = some (.int .i64 xk) ∧ W.cell? ⟨B, 3, none⟩ = some (.string ⟨xd.toArray⟩))
              (first | exact HS5 | exact HMK _ hq | exact HMK _ (hq.alloc hq.size _) | exact HMK _ ((hbd.alloc hbd.size _).drew))
              ((refine step_append_here (by rfl) (.tmp 40) (.tmp 52) 28 37 (by rfl) Try.underlying28 hi hz0 hz1 hz2 rfl (by decide) (by decide) w2.heap.size ⟨wd.heap.size, 0, none⟩ 1 [.string ⟨pa.toArray⟩, .int .i64 xk, .string ⟨xd.toArray⟩, .int .i64 (j : Int)] (by rfl) (by rfl) hO8 rfl hCB (by simp [Value.oneCell']) (by omega) hbs8 ?_; intro v5 w5 hown5 hgr5 hnew5; have HS5 := And.intro (hgr5.cell HS8.1 hnb) (And.intro (hgr5.cell HS8.2.1 hnB) (hgr5.cell HS8.2.2 hnB))))
            have hb5 := (((hB6.trans (hbd.mono hB6.size)).alloc hbs (.cells #[.string ⟨pa.toArray⟩, .int .i64 xk, .string ⟨xd.toArray⟩, .int .i64 (j : Int)] 37)).drew).grown hgr5 hbs8 (fun g hg => (hO.lt g hg).1)
            go_wp2_with fail
            go_roundw
            case rel => exact ⟨k + 1, by omega, by go_num, hb5, by (show World.ownsRow _ _ _ _ _ _ _); rw [HNX.out, List.length_append, shpsV_append, ← HJ.out]; exact hown5⟩
            case measure => simp [intOf]; omega
          · have hjf : j ≠ firstE L z := fun e => he (by simp only [e]; exact first_at (by omega))
            have hz : (L[j].2 != z) = true := by simpa using he
            generalize L[j].2 = zj at *
            go_wp2
            go_quiet (fail)
            go_wp2
            go_roundw
            case rel => exact ⟨j + 1, by omega, by go_num, below_drewN hbq _⟩
            case measure => simp [intOf]; omega
    · obtain rfl : k = L.length := by omega
      go_wp2
      go_ret
      exact ⟨_, rfl, by rw [HP.out]; exact own_base HO.out hB2.size, hB2.trans (hbw.mono hB2.size)⟩
end Go.Proofs.Ytpeghnhaekebdaa

/- Walks: the document's Same of shapes. -/
set_option linter.unusedVariables false
set_option linter.unusedSimpArgs false
namespace Go.Proofs.Ytpeghnhaekebdaa
open Go.RowKit

/-- What a table must be, to be gone through. -/
structure Trim (l : List Nd) : Prop where
  short : ∀ x ∈ l, shortP 300 x.ents
  len : l.length ≤ 100
  walk : (listN l).length ≤ 1000000
set_option maxHeartbeats 4000000 in
set_option maxRecDepth 100000 in
theorem refSame16_any (ma ba na mb bb nb : Int) (la lb : List Nd) (va vb : Value) (w : World) (ha : Nds w va la) (hb : Nds w vb lb) (ta : Trim la) (tb : Trim lb) :
    Calls Try.prog 12 #[.agg (fsC ma ba na va), .agg (fsC mb bb nb vb)] w fun e w' => e = .returned (.bool (decide (shapeN la = shapeN lb))) ∧ Below w.heap.size w w' := by
  obtain ⟨a, ca, rfl⟩ := nds_slice ha
  obtain ⟨b, cb, rfl⟩ := nds_slice hb
  have bA := (Blk.new w 24 (fsC ma ba na (.slice a la.length ca))).alloc (.cells (fsC mb bb nb (.slice b lb.length cb)) 24)
  have bB := Blk.new (w.alloc (.cells (fsC ma ba na (.slice a la.length ca)) 24)) 24 (fsC mb bb nb (.slice b lb.length cb))
  have hB := ((Below.refl w.heap.size w).alloc (Nat.le_refl _) (.cells (fsC ma ba na (.slice a la.length ca)) 24)).alloc (by simp) (.cells (fsC mb bb nb (.slice b lb.length cb)) 24)
  simp only [World.size_alloc] at bB
  have HA := Lib.hid ha
  have HBn := Lib.hid hb
  clear ha hb
  go_enter Try.func12, Try.ntmps12
  go_upto_region 1 with fail
  generalize (w.alloc (.cells (fsC ma ba na (.slice a la.length ca)) 24)).alloc (.cells (fsC mb bb nb (.slice b lb.length cb)) 24) = w0 at *
  have HMK : ∀ W, Below w0.heap.size w0 W → (W.cell? ⟨w.heap.size, 0, none⟩ = some (.int .i64 ma) ∧ W.cell? ⟨w.heap.size, 1, none⟩ = some (.int .i64 ba) ∧ W.cell? ⟨w.heap.size, 2, none⟩ = some (.int .i64 na) ∧ W.cell? ⟨w.heap.size, 3, none⟩ = some (.slice a la.length ca) ∧ W.cell? ⟨w.heap.size + 1, 0, none⟩ = some (.int .i64 mb) ∧ W.cell? ⟨w.heap.size + 1, 1, none⟩ = some (.int .i64 bb) ∧ W.cell? ⟨w.heap.size + 1, 2, none⟩ = some (.int .i64 nb) ∧ W.cell? ⟨w.heap.size + 1, 3, none⟩ = some (.slice b lb.length cb)) := by
    intro W h
    obtain ⟨⟨x0, x1, x2, x3⟩, _⟩ := (bA.next h).four
    obtain ⟨⟨y0, y1, y2, y3⟩, _⟩ := (bB.next h).four
    exact ⟨x0, x1, x2, x3, y0, y1, y2, y3⟩
  have hq : Below w0.heap.size w0 w0.drew := (Below.refl _ _).drew
  have hOA := fun W (h : Below w0.heap.size w0 W) => refOf_any ma ba na la (.slice a la.length ca) W (HA.out.below (hB.trans (h.mono hB.size))) ta.short (by have := ta.len; omega) ta.walk
  have hOB := fun W (h : Below w0.heap.size w0 W) => refOf_any mb bb nb lb (.slice b lb.length cb) W (HBn.out.below (hB.trans (h.mono hB.size))) tb.short (by have := tb.len; omega) tb.walk
  clear bA bB
  go_region_held3 (fun W => W.cell? ⟨w.heap.size, 0, none⟩ = some (.int .i64 ma) ∧ W.cell? ⟨w.heap.size, 1, none⟩ = some (.int .i64 ba) ∧ W.cell? ⟨w.heap.size, 2, none⟩ = some (.int .i64 na) ∧ W.cell? ⟨w.heap.size, 3, none⟩ = some (.slice a la.length ca) ∧ W.cell? ⟨w.heap.size + 1, 0, none⟩ = some (.int .i64 mb) ∧ W.cell? ⟨w.heap.size + 1, 1, none⟩ = some (.int .i64 bb) ∧ W.cell? ⟨w.heap.size + 1, 2, none⟩ = some (.int .i64 nb) ∧ W.cell? ⟨w.heap.size + 1, 3, none⟩ = some (.slice b lb.length cb))
    (exact HMK _ hq)
    (first
      | (go_at_call 10; (with_reducible refine (hOA _ hq).mono ?_); rintro e wz ⟨vA, rfl, oA, bz⟩; have nA := own_shps oA; have hq := hq.trans (bz.mono hq.size); try (replace nB := nB.below bz))
      | (go_at_call 10; (with_reducible refine (hOB _ hq).mono ?_); rintro e wz ⟨vB, rfl, oB, bz⟩; have nB := own_shps oB; have hq := hq.trans (bz.mono hq.size); try (replace nA := nA.below bz))
      | (go_at_call 8; refine (refLines_any _ _ _ _ _ nA nB).mono ?_; rintro e wz ⟨rfl, bz⟩; have hq := hq.trans (bz.mono hq.size)))
  all_goals go_wp2
  all_goals go_ret
  all_goals exact ⟨rfl, hB.trans (hq.mono hB.size)⟩
end Go.Proofs.Ytpeghnhaekebdaa

/- Walks: the program's Has. -/
set_option linter.unusedVariables false
set_option linter.unusedSimpArgs false
namespace Go.Proofs.Ytpeghnhaekebdaa
open Go.RowKit

def has16B (d : List UInt8) (k : Int) (x : Nd) : Bool := x.data == d && x.kind == k
theorem any16_next {α : Type} {l : List α} {p : α → Bool} {k : Nat} (h : k < l.length) (ht : (l.take k).any p = false) : (l.take (k + 1)).any p = p l[k] := by
  rw [List.take_succ_eq_append_getElem h, List.any_append, ht]; simp
set_option maxRecDepth 100000 in
theorem hit_any (xi xk xl xp : Int) (xd : List UInt8) (ae : Option Addr) (ln ne : Nat) (xn : List Ent) (d : List UInt8) (k : Int) (bk bd : Nat) (w : World) (hk : w.cell? ⟨bk, 0, none⟩ = some (.int .i64 k)) (hbk : bk < w.heap.size) (hd : w.cell? ⟨bd, 0, none⟩ = some (.string ⟨d.toArray⟩)) (hbd : bd < w.heap.size) :
    Calls Try.prog 25 #[.agg (ndC ⟨xi, xk, xl, xd, xp, .slice ae ln ne, xn⟩), .pointer (some ⟨bk, 0, none⟩), .pointer (some ⟨bd, 0, none⟩)] w fun e w' => e = .returned (.bool (has16B d k ⟨xi, xk, xl, xd, xp, .slice ae ln ne, xn⟩)) ∧ Below w.heap.size w w' := by
  have bX := Blk.new w 33 (ndC ⟨xi, xk, xl, xd, xp, .slice ae ln ne, xn⟩)
  have hB := alloc_below w (.cells (ndC ⟨xi, xk, xl, xd, xp, .slice ae ln ne, xn⟩) 33)
  have HN : Hid (has16B d k ⟨xi, xk, xl, xd, xp, .slice ae ln ne, xn⟩ = (xd == d && xk == k)) := rfl
  have c0 := (hB.cell (p := ⟨bk, 0, none⟩) hbk).trans hk
  have c1 := (hB.cell (p := ⟨bd, 0, none⟩) hbd).trans hd
  obtain ⟨⟨x0, x1, x2, x3, x4, x5⟩, _⟩ := bX.six
  dsimp only at x0 x1 x2 x3 x4 x5
  clear hk hd bX
  cases hkk : xk == k
  · go_enter Try.func25, Try.ntmps25
    go_wp2
    go_ret
    exact ⟨ret_bool (by rw [HN.out, hkk]; simp), hB⟩
  · go_enter Try.func25, Try.ntmps25
    go_wp2
    go_ret
    exact ⟨ret_bool (by rw [HN.out, hkk]; simp), hB⟩
set_option maxHeartbeats 2000000 in
set_option maxRecDepth 100000 in
theorem index16_any (l : List Nd) (d : List UInt8) (k : Int) (bk bd : Nat) (v : Value) (w : World) (hv : Nds w v l) (hl : l.length ≤ 1000) (hk : w.cell? ⟨bk, 0, none⟩ = some (.int .i64 k)) (hbk : bk < w.heap.size) (hd : w.cell? ⟨bd, 0, none⟩ = some (.string ⟨d.toArray⟩)) (hbd : bd < w.heap.size) :
    Calls Try.prog 38 #[v, .func (.func 25) #[] #[.pointer (some ⟨bk, 0, none⟩), .pointer (some ⟨bd, 0, none⟩)]] w fun e w' => ∃ i : Int, e = .returned (.int .i64 i) ∧ decide (0 ≤ i) = l.any (has16B d k) ∧ Below w.heap.size w w' := by
  obtain ⟨a, ca, rfl, hc, hm, hea, hna, HA0⟩ := id hv
  have HA := Lib.hid HA0
  have HV := Lib.hid hv
  clear HA0 hea hv
  have HK := Lib.hid hk
  have HD := Lib.hid hd
  clear hk hd
  go_enter Try.func38, Try.ntmps38
  go_wp2
  go_loopw [8] (fun s8 wr => ∃ j : Nat, j ≤ l.length ∧ s8 = .int .i64 j ∧ Aside ((l.take j).any (has16B d k) = false) ∧ Below w.heap.size w wr) (fun s8 _ => l.length - (intOf s8).toNat)
  case atStart => exact ⟨0, Nat.zero_le _, rfl, (show Aside _ from rfl), Below.refl _ _⟩
  case round =>
    obtain ⟨j, hj, rfl, HT, hbw⟩ := hrel
    by_cases hlt : j < l.length
    · obtain ⟨b, o, rfl, hb, hcl⟩ := HA.out (by omega)
      obtain ⟨c0, c1, c2, c3, c4, c5⟩ := (hcl j hlt).below hbw hb
      have hE := (HV.out.below hbw).all _ (List.getElem_mem hlt)
      have hnx := any16_next hlt HT.out
      have hin : has16B d k l[j] = true → l.any (has16B d k) = true := fun h => List.any_eq_true.2 ⟨l[j], List.getElem_mem hlt, h⟩
      clear hcl
      have k0 : (0 : Int) ≤ (j : Int) := by omega
      have k1 : (j : Int) < (l.length : Int) := by omega
      generalize l[j] = x at *
      obtain ⟨xi, xk, xl, xd, xp, xe, xn⟩ := x
      dsimp only at hE c0 c1 c2 c3 c4 c5
      obtain ⟨ae, ne, rfl, _⟩ := hE
      have hH := hit_any xi xk xl xp xd ae xn.length ne xn d k bk bd wr ((hbw.cell (p := ⟨bk, 0, none⟩) hbk).trans HK.out) (Nat.lt_of_lt_of_le hbk hbw.size) ((hbw.cell (p := ⟨bd, 0, none⟩) hbd).trans HD.out) (Nat.lt_of_lt_of_le hbd hbw.size)
      have HNX := Lib.hid hnx
      have HIN := Lib.hid hin
      clear hnx hin
      cases hr : has16B d k ⟨xi, xk, xl, xd, xp, .slice ae xn.length ne, xn⟩
      · rw [hr] at hH
        have HR := Lib.hid hr
        clear hr
        go_wp2_with fail
        refine hH.mono ?_
        rintro e w4 ⟨rfl, b4⟩
        go_wp2
        go_roundw
        case rel => exact ⟨j + 1, by omega, by go_num, (show Aside _ from HNX.out.trans HR.out), hbw.trans (b4.mono hbw.size)⟩
        case measure => simp [intOf]; omega
      · rw [hr] at hH
        have HR := Lib.hid hr
        clear hr
        go_wp2_with fail
        refine hH.mono ?_
        rintro e w4 ⟨rfl, b4⟩
        go_wp2
        go_ret
        exact ⟨_, rfl, by rw [HIN.out HR.out]; simp, hbw.trans (b4.mono hbw.size)⟩
    · obtain rfl : j = l.length := by omega
      have HN : Hid (l.any (has16B d k) = false) := by (show _ = _); have := HT.out; rwa [List.take_length] at this
      go_wp2
      go_ret
      exact ⟨_, rfl, by rw [HN.out]; rfl, hbw⟩
set_option maxRecDepth 100000 in
theorem contains16_any (l : List Nd) (d : List UInt8) (k : Int) (bk bd : Nat) (v : Value) (w : World) (hv : Nds w v l) (hl : l.length ≤ 1000) (hk : w.cell? ⟨bk, 0, none⟩ = some (.int .i64 k)) (hbk : bk < w.heap.size) (hd : w.cell? ⟨bd, 0, none⟩ = some (.string ⟨d.toArray⟩)) (hbd : bd < w.heap.size) :
    Calls Try.prog 24 #[v, .func (.func 25) #[] #[.pointer (some ⟨bk, 0, none⟩), .pointer (some ⟨bd, 0, none⟩)]] w fun e w' => e = .returned (.bool (l.any (has16B d k))) ∧ Below w.heap.size w w' := by
  have hI := index16_any l d k bk bd v w hv hl hk hbk hd hbd
  obtain ⟨a, ca, rfl⟩ := nds_slice hv
  clear hv hk hd
  go_enter Try.func24, Try.ntmps24
  go_wp2_with fail
  refine hI.mono ?_
  rintro e w1 ⟨i, rfl, hi, b1⟩
  have HI := Lib.hid hi
  clear hi hI
  go_wp2
  go_ret
  exact ⟨ret_bool (by rw [← HI.out]), b1⟩
set_option maxRecDepth 100000 in
theorem Has16_any (mi mb nx k : Int) (l : List Nd) (d : List UInt8) (v : Value) (w : World) (hv : Nds w v l) (hl : l.length ≤ 1000) :
    Calls Try.prog 13 #[.agg (fsC mi mb nx v), .string ⟨d.toArray⟩, .int .i64 k] w fun e w' => e = .returned (.bool (l.any (fun x => x.data == d && x.kind == k))) ∧ Below w.heap.size w w' := by
  obtain ⟨a, ca, rfl⟩ := nds_slice hv
  have bF := ((Blk.new w 24 (fsC mi mb nx (.slice a l.length ca))).alloc (.cells #[.string ⟨d.toArray⟩] 9)).alloc (.cells #[.int .i64 k] 3)
  have bD := (Blk.new (w.alloc (.cells (fsC mi mb nx (.slice a l.length ca)) 24)) 9 #[.string ⟨d.toArray⟩]).alloc (.cells #[.int .i64 k] 3)
  have bK := Blk.new ((w.alloc (.cells (fsC mi mb nx (.slice a l.length ca)) 24)).alloc (.cells #[.string ⟨d.toArray⟩] 9)) 3 #[.int .i64 k]
  have hB := (((Below.refl w.heap.size w).alloc (Nat.le_refl _) (.cells (fsC mi mb nx (.slice a l.length ca)) 24)).alloc (by simp) (.cells #[.string ⟨d.toArray⟩] 9)).alloc (by simp; omega) (.cells #[.int .i64 k] 3)
  simp only [World.size_alloc] at bD bK
  have hC := contains16_any l d k (w.heap.size + 1 + 1) (w.heap.size + 1) _ _ (hv.below hB) hl (bK.cell 0) bK.lt (bD.cell 0) bD.lt
  obtain ⟨⟨p0, p1, p2, p3⟩, _⟩ := bF.four
  clear hv bF bD bK
  generalize hW0 : ((w.alloc (.cells (fsC mi mb nx (.slice a l.length ca)) 24)).alloc (.cells #[.string ⟨d.toArray⟩] 9)).alloc (.cells #[.int .i64 k] 3) = w0 at *
  go_enter Try.func13, Try.ntmps13
  go_wp2_with fail
  clear hW0
  refine hC.mono ?_
  rintro e w1 ⟨rfl, b1⟩
  go_wp2
  go_ret
  exact ⟨rfl, hB.trans (b1.mono hB.size)⟩
end Go.Proofs.Ytpeghnhaekebdaa

/- Two file systems, gone through side by side, entry by entry, the last one first: their lines are the same just if their shapes are. No program's function. -/
set_option linter.unusedVariables false
set_option linter.unusedSimpArgs false
namespace Go.Proofs.Ytpeghnhaekebdaa

/-! ### Lists side by side -/
def All2 {α β : Type} (R : α → β → Prop) : List α → List β → Prop
  | [], [] => True
  | x :: a, y :: b => R x y ∧ All2 R a b
  | _, _ => False
theorem all2_len {α β : Type} {R : α → β → Prop} : ∀ {a : List α} {b : List β}, All2 R a b → a.length = b.length
  | [], [], _ => rfl
  | _ :: _, _ :: _, h => by simp only [List.length_cons]; rw [all2_len h.2]
  | [], _ :: _, h => h.elim
  | _ :: _, [], h => h.elim
theorem all2_join {α β : Type} {R : α → β → Prop} {c : List α} {d : List β} (hc : All2 R c d) : ∀ {a : List α} {b : List β}, All2 R a b → All2 R (a ++ c) (b ++ d)
  | [], [], _ => hc
  | _ :: _, _ :: _, h => ⟨h.1, all2_join hc h.2⟩
  | [], _ :: _, h => h.elim
  | _ :: _, [], h => h.elim
theorem all2_part {α β : Type} {R : α → β → Prop} {c : List α} {d : List β} : ∀ {a : List α} {b : List β}, a.length = b.length → All2 R (a ++ c) (b ++ d) → All2 R a b ∧ All2 R c d
  | [], [], _, h => ⟨trivial, h⟩
  | _ :: _, _ :: _, hl, h => by
    obtain ⟨h1, h2⟩ := all2_part (by simpa using hl) h.2
    exact ⟨⟨h.1, h1⟩, h2⟩
  | [], _ :: _, hl, _ => by simp at hl
  | _ :: _, [], hl, _ => by simp at hl
theorem all2_rev {α β : Type} {R : α → β → Prop} : ∀ {a : List α} {b : List β}, All2 R a b → All2 R a.reverse b.reverse
  | [], [], _ => trivial
  | _ :: _, _ :: _, h => by
    rw [List.reverse_cons, List.reverse_cons]
    exact all2_join (show All2 R [_] [_] from ⟨h.1, trivial⟩) (all2_rev h.2)
  | [], _ :: _, h => h.elim
  | _ :: _, [], h => h.elim
theorem all2_flat {α β γ δ : Type} {R : α → β → Prop} {Q : γ → δ → Prop} {f : α → List γ} {g : β → List δ} : ∀ {a : List α} {b : List β}, All2 R a b → (∀ x ∈ a, ∀ y ∈ b, R x y → All2 Q (f x) (g y)) → All2 Q (a.flatMap f) (b.flatMap g)
  | [], [], _, _ => trivial
  | x :: a, y :: b, h, hq => by
    rw [List.flatMap_cons, List.flatMap_cons]
    exact all2_join (all2_flat h.2 fun u hu v hv => hq u (List.mem_cons_of_mem _ hu) v (List.mem_cons_of_mem _ hv)) (hq x (by simp) y (by simp) h.1)
  | [], _ :: _, h, _ => h.elim
  | _ :: _, [], h, _ => h.elim
theorem all2_map {α β γ : Type} {R : α → β → Prop} {f : α → γ} {g : β → γ} : ∀ {a : List α} {b : List β}, All2 R a b → (∀ x ∈ a, ∀ y ∈ b, R x y → f x = g y) → a.map f = b.map g
  | [], [], _, _ => rfl
  | x :: a, y :: b, h, hq => by
    rw [List.map_cons, List.map_cons, hq x (by simp) y (by simp) h.1, all2_map h.2 fun u hu v hv => hq u (List.mem_cons_of_mem _ hu) v (List.mem_cons_of_mem _ hv)]
  | [], _ :: _, h, _ => h.elim
  | _ :: _, [], h, _ => h.elim

/-! ### The lines -/
structure Lin where
  name : List UInt8
  first : Int
  kind : Int
  data : List UInt8
  ents : Int
deriving DecidableEq
def idxN (S : List Int) (i : Int) : Nat := S.findIdx (fun j => j == i)
theorem idx_lt {S : List Int} {i : Int} (h : i ∈ S) : idxN S i < S.length := List.findIdx_lt_length_of_exists ⟨i, h, by simp⟩
theorem idx_at {S : List Int} {i : Int} (h : idxN S i < S.length) : S[idxN S i] = i := by
  have h2 : (fun j : Int => j == i) (S[idxN S i]) = true := List.findIdx_getElem (w := h)
  simpa using h2
theorem idx_more {S : List Int} {i : Int} (h : i ∈ S) (R : List Int) : idxN (S ++ R) i = idxN S i := by
  have h2 := idx_lt h
  unfold idxN at h2 ⊢
  rw [List.findIdx_append, if_pos h2]
theorem idx_new {S : List Int} {i : Int} (h : i ∉ S) : idxN (S ++ [i]) i = S.length := by
  have h2 : S.findIdx (fun j => j == i) = S.length := List.findIdx_eq_length.2 fun x hx => by simp; rintro rfl; exact h hx
  unfold idxN
  rw [List.findIdx_append, h2, if_neg (by omega)]
  simp [List.findIdx_cons]
/-- The line of the entry that is come to, behind entries of these numbers. -/
def linN (l : List Nd) (S : List Int) (e : Ent) : Lin := if e.2 ∈ S then ⟨e.1, (idxN S e.2 : Nat), 0, [], 0⟩ else ⟨e.1, (S.length : Nat), (getN l e.2).kind, (getN l e.2).data, ((getN l e.2).ents.length : Nat)⟩
def moreN (l : List Nd) (S : List Int) (e : Ent) : List Ent := if e.2 ∈ S then [] else (getN l e.2).ents
/-- Gone on from these entries to go, the next one first, the lines are the same to the end. -/
inductive Agree (a b : List Nd) : List Ent → List Int → List Ent → List Int → Prop
  | done (S T : List Int) : Agree a b [] S [] T
  | step {e f : Ent} {r s : List Ent} {S T : List Int} : linN a S e = linN b T f → Agree a b ((moreN a S e).reverse ++ r) (S ++ [e.2]) ((moreN b T f).reverse ++ s) (T ++ [f.2]) → Agree a b (e :: r) S (f :: s) T
theorem agree_step {a b : List Nd} {e f : Ent} {r s : List Ent} {S T : List Int} : Agree a b (e :: r) S (f :: s) T ↔ linN a S e = linN b T f ∧ Agree a b ((moreN a S e).reverse ++ r) (S ++ [e.2]) ((moreN b T f).reverse ++ s) (T ++ [f.2]) :=
  ⟨fun h => by cases h with | step h1 h2 => exact ⟨h1, h2⟩, fun h => .step h.1 h.2⟩
theorem lin_known {a b : List Nd} {S T : List Int} {e f : Ent} (hl : S.length = T.length) (h : linN a S e = linN b T f) : e.2 ∈ S ↔ f.2 ∈ T := by
  unfold linN at h
  by_cases h1 : e.2 ∈ S
  · by_cases h2 : f.2 ∈ T
    · exact ⟨fun _ => h2, fun _ => h1⟩
    · rw [if_pos h1, if_neg h2] at h
      have := idx_lt h1
      have h3 := congrArg Lin.first h
      simp only at h3
      omega
  · by_cases h2 : f.2 ∈ T
    · rw [if_neg h1, if_pos h2] at h
      have := idx_lt h2
      have h3 := congrArg Lin.first h
      simp only at h3
      omega
    · exact ⟨fun h => absurd h h1, fun h => absurd h h2⟩
theorem more_len {a b : List Nd} {S T : List Int} {e f : Ent} (hl : S.length = T.length) (h : linN a S e = linN b T f) : (moreN a S e).length = (moreN b T f).length := by
  have hk := lin_known hl h
  unfold linN at h
  unfold moreN
  by_cases h1 : e.2 ∈ S
  · rw [if_pos h1, if_pos (hk.1 h1)]
  · have h2 := fun h => h1 (hk.2 h)
    rw [if_neg h1, if_neg h2] at h
    rw [if_neg h1, if_neg h2]
    have h3 := congrArg Lin.ents h
    simp only at h3
    omega

/-! ### Pairs of inodes -/
def OneB (Z : List (Int × Int)) : Prop := ∀ p ∈ Z, ∀ q ∈ Z, p.1 = q.1 ↔ p.2 = q.2
theorem OneB.sub {Z F : List (Int × Int)} (h : OneB F) (hs : ∀ p ∈ Z, p ∈ F) : OneB Z := fun p hp q hq => h p (hs p hp) q (hs q hq)
theorem idx_zip {Z : List (Int × Int)} {p : Int × Int} : OneB Z → p ∈ Z → idxN (Z.map (·.1)) p.1 = idxN (Z.map (·.2)) p.2 := by
  unfold idxN
  induction Z with
  | nil => intro _ h; cases h
  | cons q Z ih =>
    intro h hp
    rw [List.map_cons, List.map_cons, List.findIdx_cons, List.findIdx_cons]
    have hq := h q (by simp) p hp
    by_cases e : q.1 = p.1
    · rw [show (q.1 == p.1) = true from by simpa using e, show (q.2 == p.2) = true from by simpa using hq.1 e]; rfl
    · have e2 := fun c => e (hq.2 c)
      rw [show (q.1 == p.1) = false from by simpa using e, show (q.2 == p.2) = false from by simpa using e2]
      have hz : p ∈ Z := (List.mem_cons.1 hp).resolve_left (by rintro rfl; exact e rfl)
      show _ + 1 = _ + 1
      rw [ih (h.sub fun x hx => List.mem_cons_of_mem _ hx) hz]
theorem zip_idx {Z : List (Int × Int)} {i j : Int} (hi : i ∈ Z.map (·.1)) (hj : j ∈ Z.map (·.2)) (h : idxN (Z.map (·.1)) i = idxN (Z.map (·.2)) j) : (i, j) ∈ Z := by
  have l1 : idxN (Z.map (·.1)) i < Z.length := by have := idx_lt hi; rwa [List.length_map] at this
  have h1 := idx_at (idx_lt hi)
  have h2 := idx_at (idx_lt hj)
  rw [List.getElem_map] at h1 h2
  simp only [← h] at h2
  have : Z[idxN (Z.map (·.1)) i] = (i, j) := Prod.ext h1 h2
  rw [← this]
  exact List.getElem_mem l1
def EntF (F : List (Int × Int)) (e f : Ent) : Prop := e.1 = f.1 ∧ (e.2, f.2) ∈ F
def GoodF (a b : List Nd) (F : List (Int × Int)) (p : Int × Int) : Prop := (getN a p.1).kind = (getN b p.2).kind ∧ (getN a p.1).data = (getN b p.2).data ∧ All2 (EntF F) (getN a p.1).ents (getN b p.2).ents
theorem one_snoc {Z : List (Int × Int)} {i j : Int} (h : OneB Z) (hi : i ∉ Z.map (·.1)) (hj : j ∉ Z.map (·.2)) : OneB (Z ++ [(i, j)]) := by
  have hi2 := fun p hp (e : p.1 = i) => hi (List.mem_map.2 ⟨p, hp, e⟩)
  have hj2 := fun p hp (e : p.2 = j) => hj (List.mem_map.2 ⟨p, hp, e⟩)
  intro p hp q hq
  rcases List.mem_append.1 hp with hp | hp
  · rcases List.mem_append.1 hq with hq | hq
    · exact h p hp q hq
    · rw [List.mem_singleton.1 hq]
      exact ⟨fun e => absurd e (hi2 p hp), fun e => absurd e (hj2 p hp)⟩
  · rcases List.mem_append.1 hq with hq | hq
    · rw [List.mem_singleton.1 hp]
      exact ⟨fun e => absurd e.symm (hi2 q hq), fun e => absurd e.symm (hj2 q hq)⟩
    · rw [List.mem_singleton.1 hp, List.mem_singleton.1 hq]
      exact ⟨fun _ => rfl, fun _ => rfl⟩
theorem agree_pairs {a b : List Nd} {K K' : List Ent} {S T : List Int} (h : Agree a b K S K' T) : ∀ Z : List (Int × Int), S = Z.map (·.1) → T = Z.map (·.2) → OneB Z → ∃ F, (∀ p ∈ Z, p ∈ F) ∧ OneB F ∧ All2 (EntF F) K K' ∧ ∀ p ∈ F, p ∈ Z ∨ GoodF a b F p := by
  induction h with
  | done S T => intro Z _ _ h; exact ⟨Z, fun _ h => h, h, trivial, fun _ h => .inl h⟩
  | @step e f r s S T hl _ ih =>
    rintro Z rfl rfl hZ
    have hk := lin_known (by simp) hl
    have hn := congrArg Lin.name hl
    have hml := more_len (by simp) hl
    by_cases h1 : e.2 ∈ Z.map (·.1)
    · have h2 := hk.1 h1
      have hf : (e.2, f.2) ∈ Z := zip_idx h1 h2 (by
        unfold linN at hl
        rw [if_pos h1, if_pos h2] at hl
        have := congrArg Lin.first hl
        simp only at this
        omega)
      unfold linN at hn
      rw [if_pos h1, if_pos h2] at hn
      have hs : ∀ p ∈ Z ++ [(e.2, f.2)], p ∈ Z := fun p hp => (List.mem_append.1 hp).elim id fun h => by rw [List.mem_singleton.1 h]; exact hf
      obtain ⟨F, f1, f2, f3, f4⟩ := ih (Z ++ [(e.2, f.2)]) (by simp) (by simp) (hZ.sub hs)
      obtain ⟨_, f5⟩ := all2_part (by simpa using hml) f3
      exact ⟨F, fun p hp => f1 p (List.mem_append.2 (.inl hp)), f2, ⟨⟨hn, f1 _ (by simp)⟩, f5⟩, fun p hp => (f4 p hp).imp_left (hs p)⟩
    · have h2 := fun h => h1 (hk.2 h)
      unfold linN at hn hl
      rw [if_neg h1, if_neg h2] at hn hl
      obtain ⟨F, f1, f2, f3, f4⟩ := ih (Z ++ [(e.2, f.2)]) (by simp) (by simp) (one_snoc hZ h1 h2)
      obtain ⟨f6, f5⟩ := all2_part (by simpa using hml) f3
      unfold moreN at f6
      rw [if_neg h1, if_neg h2] at f6
      have f7 := all2_rev f6
      rw [List.reverse_reverse, List.reverse_reverse] at f7
      refine ⟨F, fun p hp => f1 p (List.mem_append.2 (.inl hp)), f2, ⟨⟨hn, f1 _ (by simp)⟩, f5⟩, fun p hp => ?_⟩
      rcases f4 p hp with h | h
      · rcases List.mem_append.1 h with h | h
        · exact .inl h
        · rw [List.mem_singleton.1 h]
          exact .inr ⟨congrArg Lin.kind hl, congrArg Lin.data hl, f7⟩
      · exact .inr h
theorem below_pairs {a b : List Nd} (ta : Tree a) (tb : Tree b) {F : List (Int × Int)} (hG : ∀ p ∈ F, GoodF a b F p) (d : Nat) : ∀ i j p, (i, j) ∈ F → hasN a i = true → hasN b j = true → All2 (EntF F) (belowN a d i p) (belowN b d j p) := by
  induction d with
  | zero => intro i j p _ _ _; exact trivial
  | succ d ih =>
    intro i j p hF hi hj
    show All2 _ (if hasN a i = true then _ else _) (if hasN b j = true then _ else _)
    rw [if_pos hi, if_pos hj]
    refine ⟨⟨rfl, hF⟩, all2_flat (hG _ hF).2.2 fun e he f hf h => ?_⟩
    rw [h.1]
    exact ih _ _ _ h.2 (ta.there _ (get_mem hi).1 e he) (tb.there _ (get_mem hj).1 f hf)
theorem first_pairs {F : List (Int × Int)} (h1 : OneB F) {i j : Int} (hij : (i, j) ∈ F) : ∀ {L M : List Ent}, All2 (EntF F) L M → firstE L i = firstE M j
  | [], [], _ => rfl
  | e :: L, f :: M, h => by
    unfold firstE
    rw [List.findIdx_cons, List.findIdx_cons]
    have hq := h1 _ h.1.2 _ hij
    dsimp only at hq
    have := first_pairs h1 hij h.2
    unfold firstE at this
    by_cases c : e.2 = i
    · rw [show (e.2 == i) = true from by simpa using c, show (f.2 == j) = true from by simpa using hq.1 c]; rfl
    · have c2 := fun d => c (hq.2 d)
      rw [show (e.2 == i) = false from by simpa using c, show (f.2 == j) = false from by simpa using c2]
      show _ + 1 = _ + 1
      rw [this]
  | [], _ :: _, h => h.elim
  | _ :: _, [], h => h.elim
theorem list_deep {l : List Nd} (t : Tree l) (j : Nat) : listN l = belowN l (l.length + 1 + j) 1 [47] := (below_more t 1 [47] j).symm
theorem pairs_shape {a b : List Nd} (ta : Tree a) (tb : Tree b) {F : List (Int × Int)} (h1 : OneB F) (hr : ((1 : Int), (1 : Int)) ∈ F) (hG : ∀ p ∈ F, GoodF a b F p) : shapeN a = shapeN b := by
  have hA : All2 (EntF F) (listN a) (listN b) := by
    rw [list_deep ta b.length, list_deep tb a.length, show b.length + 1 + a.length = a.length + 1 + b.length from by omega]
    exact below_pairs ta tb hG _ _ _ _ hr ta.root tb.root
  unfold shapeN
  refine all2_map hA fun e _ f _ h => ?_
  unfold shpOf
  obtain ⟨g1, g2, _⟩ := hG _ h.2
  dsimp only at g1 g2
  rw [h.1, g1, g2, first_pairs h1 h.2 hA]

/-! ### From shapes to pairs -/
theorem tree_kid {l : List Nd} (t : Tree l) (d : Nat) : ∀ i ns, ∀ q ∈ treeN l d i ns, ∀ e ∈ (getN l q.2).ents, (q.1 ++ [e.1], e.2) ∈ treeN l (d + 1) i ns := by
  induction d with
  | zero => intro i ns q hq; cases hq
  | succ d ih =>
    intro i ns q hq e he
    have hq2 : q ∈ (if hasN l i = true then (ns, i) :: (getN l i).ents.flatMap (fun e => treeN l d e.2 (ns ++ [e.1])) else []) := hq
    show _ ∈ (if hasN l i = true then (ns, i) :: (getN l i).ents.flatMap (fun e => treeN l (d + 1) e.2 (ns ++ [e.1])) else [])
    cases hh : hasN l i
    · rw [hh] at hq2; cases hq2
    · rw [hh, if_pos rfl] at hq2
      rw [if_pos rfl]
      refine List.mem_cons_of_mem _ (List.mem_flatMap.2 ?_)
      rcases List.mem_cons.1 hq2 with rfl | hq2
      · refine ⟨e, he, ?_⟩
        show _ ∈ (if hasN l e.2 = true then (ns ++ [e.1], e.2) :: _ else [])
        rw [if_pos (t.there _ (get_mem hh).1 e he)]
        exact List.mem_cons_self
      · obtain ⟨c, hc, hq3⟩ := List.mem_flatMap.1 hq2
        exact ⟨c, hc, ih _ _ q hq3 e he⟩
theorem list_kid {l : List Nd} (t : Tree l) {k : Nat} (h : k < (listN l).length) {ns : List (List UInt8)} (hm : ns.all mayB = true) (hp : (listN l)[k].1 = joinB ns) {e : Ent} (he : e ∈ (getN l (listN l)[k].2).ents) : ∃ k2, ∃ h2 : k2 < (listN l).length, (listN l)[k2] = (joinB (ns ++ [e.1]), e.2) := by
  have hmem := List.getElem_mem h
  have e1 := list_tree t
  generalize (listN l)[k] = q at *
  rw [e1] at hmem
  obtain ⟨z, hz, rfl⟩ := List.mem_map.1 hmem
  dsimp only at hp he
  have hzm := tree_may t _ _ _ rfl z hz
  have hns : z.1 = ns := joinB_inj (mayB_all hzm) (mayB_all hm) hp
  have hk := tree_kid t _ _ _ z hz e he
  have h2 : (joinB (ns ++ [e.1]), e.2) ∈ listN l := by
    have e3 := below_tree t (l.length + 1 + 1) 1 [] (fun n hn => nomatch hn)
    have e4 : listN l = belowN l (l.length + 1 + 1) 1 (joinB []) := list_deep t 1
    rw [e4, e3, ← hns]
    exact List.mem_map.2 ⟨_, hk, rfl⟩
  obtain ⟨k2, h2, e2⟩ := List.getElem_of_mem h2
  exact ⟨k2, h2, e2⟩
theorem kid_pair {a b : List Nd} (ta : Tree a) (tb : Tree b) (hl : (listN a).length = (listN b).length) (hp : ∀ k (h1 : k < (listN a).length) (h2 : k < (listN b).length), (listN a)[k].1 = (listN b)[k].1) {k : Nat} (h1 : k < (listN a).length) (h2 : k < (listN b).length) {e : Ent} (he : e ∈ (getN a (listN a)[k].2).ents) :
    ∃ f ∈ (getN b (listN b)[k].2).ents, e.1 = f.1 ∧ ∃ k2, ∃ (g1 : k2 < (listN a).length) (g2 : k2 < (listN b).length), (listN a)[k2].2 = e.2 ∧ (listN b)[k2].2 = f.2 := by
  obtain ⟨ns, hm, hns⟩ := list_may ta h1
  obtain ⟨k2, g1, hk2⟩ := list_kid ta h1 hm hns he
  have g2 : k2 < (listN b).length := by omega
  have hp2 := hp k2 g1 g2
  rw [hk2] at hp2
  dsimp only at hp2
  have hme : mayB e.1 = true := may_ents ta e he
  have hgood : goodB (ns ++ [e.1]) := mayB_all (by rw [List.all_append, hm]; simp [hme])
  have h0 : 0 < k2 := by
    refine Nat.pos_of_ne_zero fun c => ?_
    subst c
    obtain ⟨r, hr⟩ := list_head tb
    have : (listN b)[0] = ([47], 1) := by simp [hr]
    rw [this] at hp2
    have := joinB_inj hgood (show goodB [] from fun n hn => nomatch hn) (show joinB (ns ++ [e.1]) = joinB [] from hp2)
    simp at this
  obtain ⟨pn, nm, dir, k', hk', hm', hq1, hq2, hq3⟩ := order_at tb h0 g2
  have hj := joinB_inj hgood (mayB_all hm') (hp2.trans hq1)
  obtain ⟨rfl, hnm⟩ := List.append_inj' hj rfl
  have hnm2 : e.1 = nm := by simpa using hnm
  subst hnm2
  have hkk : k' = k := by
    have e1 : ((listN b)[k']'(by omega)).1 = (listN b)[k].1 := by rw [hq2, ← hp k h1 h2, hns]
    rcases Nat.lt_trichotomy k' k with c | c | c
    · exact absurd e1 (order_ne tb c h2)
    · exact c
    · exact absurd e1.symm (order_ne tb c (by omega))
  subst hkk
  rw [hq2]
  exact ⟨_, hq3, rfl, k2, g1, g2, by rw [hk2], rfl⟩
theorem all2_sort {F : List (Int × Int)} : ∀ {a b : List Ent}, sortP a → sortP b → (∀ e ∈ a, ∃ f ∈ b, EntF F e f) → (∀ f ∈ b, ∃ e ∈ a, EntF F e f) → All2 (EntF F) a b
  | [], [], _, _, _, _ => trivial
  | [], y :: b, _, _, _, h => by obtain ⟨e, he, _⟩ := h y (by simp); cases he
  | x :: a, [], _, _, h, _ => by obtain ⟨e, he, _⟩ := h x (by simp); cases he
  | x :: a, y :: b, ha, hb, h1, h2 => by
    obtain ⟨ha1, ha2⟩ := List.pairwise_cons.1 ha
    obtain ⟨hb1, hb2⟩ := List.pairwise_cons.1 hb
    have hxy : EntF F x y := by
      obtain ⟨f, hf, hxf⟩ := h1 x (by simp)
      rcases List.mem_cons.1 hf with rfl | hf
      · exact hxf
      obtain ⟨e, he, hey⟩ := h2 y (by simp)
      have l1 := hb1 f hf
      rw [← hxf.1] at l1
      rcases List.mem_cons.1 he with rfl | he
      · exact hey
      have l2 := ha1 e he
      rw [hey.1, lt_asym l1] at l2
      cases l2
    refine ⟨hxy, all2_sort ha2 hb2 (fun e he => ?_) (fun f hf => ?_)⟩
    · obtain ⟨f, hf, h⟩ := h1 e (List.mem_cons_of_mem _ he)
      rcases List.mem_cons.1 hf with rfl | hf
      · exact absurd (hxy.1.trans h.1.symm) (lt_ne (ha1 e he))
      · exact ⟨f, hf, h⟩
    · obtain ⟨e, he, h⟩ := h2 f (List.mem_cons_of_mem _ hf)
      rcases List.mem_cons.1 he with rfl | he
      · exact absurd (hxy.1.symm.trans h.1) (lt_ne (hb1 f hf))
      · exact ⟨e, he, h⟩
theorem shape_pairs {a b : List Nd} (ta : Tree a) (tb : Tree b) (sa : ∀ i, sortP (getN a i).ents) (sb : ∀ i, sortP (getN b i).ents) (h : shapeN a = shapeN b) : ∃ F, OneB F ∧ ((1 : Int), (1 : Int)) ∈ F ∧ ∀ p ∈ F, GoodF a b F p := by
  have hl : (listN a).length = (listN b).length := by rw [← shape_len, ← shape_len, h]
  have hS : ∀ k (h1 : k < (listN a).length) (h2 : k < (listN b).length), shpOf a (listN a) (listN a)[k] = shpOf b (listN b) (listN b)[k] := by
    intro k h1 h2
    have := congrArg (fun z : List Shp => z[k]?) h
    simp only [shapeN, List.getElem?_map, List.getElem?_eq_getElem h1, List.getElem?_eq_getElem h2, Option.map_some, Option.some.injEq] at this
    exact this
  have hP : ∀ k (h1 : k < (listN a).length) (h2 : k < (listN b).length), (listN a)[k].1 = (listN b)[k].1 := fun k h1 h2 => congrArg Shp.path (hS k h1 h2)
  have hM : ∀ p : Int × Int, p ∈ ((listN a).map (·.2)).zip ((listN b).map (·.2)) ↔ ∃ k, ∃ (h1 : k < (listN a).length) (h2 : k < (listN b).length), p = ((listN a)[k].2, (listN b)[k].2) := by
    intro p
    constructor
    · intro hp
      obtain ⟨k, hk, e⟩ := List.getElem_of_mem hp
      rw [List.length_zip, List.length_map, List.length_map] at hk
      refine ⟨k, by omega, by omega, ?_⟩
      rw [← e, List.getElem_zip, List.getElem_map, List.getElem_map]
    · rintro ⟨k, h1, h2, rfl⟩
      have hk : k < (((listN a).map (·.2)).zip ((listN b).map (·.2))).length := by rw [List.length_zip, List.length_map, List.length_map]; omega
      have := List.getElem_mem hk
      rw [List.getElem_zip, List.getElem_map, List.getElem_map] at this
      exact this
  refine ⟨((listN a).map (·.2)).zip ((listN b).map (·.2)), ?_, ?_, ?_⟩
  · intro p hp q hq
    obtain ⟨k, k1, k2, rfl⟩ := (hM p).1 hp
    obtain ⟨m, m1, m2, rfl⟩ := (hM q).1 hq
    have e1 := congrArg Shp.first (hS k k1 k2)
    have e2 := congrArg Shp.first (hS m m1 m2)
    simp only [shpOf] at e1 e2
    dsimp only
    constructor
    · intro c
      rw [c] at e1
      have e3 : firstE (listN b) (listN b)[k].2 = firstE (listN b) (listN b)[m].2 := by omega
      have a1 := first_at (i := (listN b)[k].2) (Nat.lt_of_le_of_lt (first_le k2) k2)
      have a2 := first_at (i := (listN b)[m].2) (Nat.lt_of_le_of_lt (first_le m2) m2)
      rw [← a1, ← a2]
      simp only [e3]
    · intro c
      rw [c] at e1
      have e3 : firstE (listN a) (listN a)[k].2 = firstE (listN a) (listN a)[m].2 := by omega
      have a1 := first_at (i := (listN a)[k].2) (Nat.lt_of_le_of_lt (first_le k1) k1)
      have a2 := first_at (i := (listN a)[m].2) (Nat.lt_of_le_of_lt (first_le m1) m1)
      rw [← a1, ← a2]
      simp only [e3]
  · obtain ⟨r, hr⟩ := list_head ta
    obtain ⟨s, hs⟩ := list_head tb
    refine (hM _).2 ⟨0, by rw [hr]; simp, by rw [hs]; simp, ?_⟩
    have e1 : (listN a)[0]'(by rw [hr]; simp) = ([47], 1) := by simp [hr]
    have e2 : (listN b)[0]'(by rw [hs]; simp) = ([47], 1) := by simp [hs]
    rw [e1, e2]
  · intro p hp
    obtain ⟨k, k1, k2, rfl⟩ := (hM p).1 hp
    have e1 := hS k k1 k2
    refine ⟨congrArg Shp.kind e1, congrArg Shp.data e1, all2_sort (sa _) (sb _) (fun e he => ?_) (fun f hf => ?_)⟩
    · obtain ⟨f, hf, hn, m, g1, g2, q1, q2⟩ := kid_pair ta tb hl hP k1 k2 he
      exact ⟨f, hf, hn, (hM _).2 ⟨m, g1, g2, by rw [q1, q2]⟩⟩
    · obtain ⟨e, he, hn, m, g2, g1, q2, q1⟩ := kid_pair tb ta hl.symm (fun k h1 h2 => (hP k h2 h1).symm) k2 k1 hf
      exact ⟨e, he, hn.symm, (hM _).2 ⟨m, g1, g2, by rw [q1, q2]⟩⟩

/-! ### How much there is to go -/
def restN (l : List Nd) (S : List Int) : Nat := (l.map (fun x => if x.ino ∈ S then 0 else x.ents.length)).sum
theorem rest_nil (l : List Nd) : restN l [] = entsN l := by simp [restN, entsN]
theorem rest_le (l : List Nd) (S : List Int) (i : Int) : restN l (S ++ [i]) ≤ restN l S := by
  induction l with
  | nil => exact Nat.le_refl _
  | cons x l ih =>
    unfold restN at ih ⊢
    simp only [List.map_cons, List.sum_cons, List.mem_append, List.mem_singleton] at ih ⊢
    split <;> split <;> simp_all <;> omega
theorem rest_new {l : List Nd} {S : List Int} {i : Int} {x : Nd} (hx : x ∈ l) (hi : x.ino = i) (hn : i ∉ S) : restN l (S ++ [i]) + x.ents.length ≤ restN l S := by
  induction l with
  | nil => cases hx
  | cons y l ih =>
    have hle := rest_le l S i
    have e1 : restN (y :: l) (S ++ [i]) = (if y.ino ∈ S ++ [i] then 0 else y.ents.length) + restN l (S ++ [i]) := by simp [restN]
    have e2 : restN (y :: l) S = (if y.ino ∈ S then 0 else y.ents.length) + restN l S := by simp [restN]
    rw [e1, e2]
    rcases List.mem_cons.1 hx with rfl | hx
    · rw [if_pos (by simp [hi]), if_neg (by rw [hi]; exact hn)]
      omega
    · have := ih hx
      by_cases c : y.ino ∈ S
      · rw [if_pos c, if_pos (by simp [c])]; omega
      · rw [if_neg c]
        split <;> omega
/-- How many steps are left at most. -/
def leftN (l : List Nd) (S : List Int) (K : List Ent) : Nat := K.length + restN l S
theorem left_next (l : List Nd) (S : List Int) (e : Ent) (r : List Ent) : leftN l (S ++ [e.2]) ((moreN l S e).reverse ++ r) + 1 ≤ leftN l S (e :: r) := by
  unfold leftN moreN
  rw [List.length_append, List.length_reverse, List.length_cons]
  by_cases h : e.2 ∈ S
  · rw [if_pos h]
    have := rest_le l S e.2
    simp
    omega
  · rw [if_neg h]
    cases hh : hasN l e.2
    · rw [getN_none hh]
      have := rest_le l S e.2
      show ([] : List Ent).length + _ + _ + _ ≤ _
      simp
      omega
    · have hg := get_mem hh
      have := rest_new hg.1 hg.2 h
      omega
theorem pairs_agree {a b : List Nd} {F : List (Int × Int)} (h1 : OneB F) (hG : ∀ p ∈ F, GoodF a b F p) (n : Nat) : ∀ (K K' : List Ent) (Z : List (Int × Int)), leftN a (Z.map (·.1)) K ≤ n → (∀ p ∈ Z, p ∈ F) → All2 (EntF F) K K' → Agree a b K (Z.map (·.1)) K' (Z.map (·.2)) := by
  induction n with
  | zero =>
    intro K K' Z hn _ hK
    cases K with
    | nil => cases K' with
      | nil => exact .done _ _
      | cons _ _ => exact hK.elim
    | cons _ _ => unfold leftN at hn; simp at hn
  | succ n ih =>
    intro K K' Z hn hZ hK
    cases K with
    | nil => cases K' with
      | nil => exact .done _ _
      | cons _ _ => exact hK.elim
    | cons e r => cases K' with
      | nil => exact hK.elim
      | cons f s =>
        obtain ⟨⟨hn1, hef⟩, hrs⟩ := hK
        obtain ⟨g1, g2, g3⟩ := hG _ hef
        dsimp only at g1 g2 g3
        have hkn : e.2 ∈ Z.map (·.1) ↔ f.2 ∈ Z.map (·.2) := by
          constructor
          · intro h
            obtain ⟨p, hp, e1⟩ := List.mem_map.1 h
            exact List.mem_map.2 ⟨p, hp, (h1 p (hZ p hp) _ hef).1 e1⟩
          · intro h
            obtain ⟨p, hp, e1⟩ := List.mem_map.1 h
            exact List.mem_map.2 ⟨p, hp, (h1 p (hZ p hp) _ hef).2 e1⟩
        have hsub : ∀ p ∈ Z ++ [(e.2, f.2)], p ∈ F := fun p hp => (List.mem_append.1 hp).elim (hZ p) fun h => by rw [List.mem_singleton.1 h]; exact hef
        have hlf := left_next a (Z.map (·.1)) e r
        have hrec := fun h => ih ((moreN a (Z.map (·.1)) e).reverse ++ r) ((moreN b (Z.map (·.2)) f).reverse ++ s) (Z ++ [(e.2, f.2)]) (by rw [List.map_append]; show leftN a (Z.map (·.1) ++ [e.2]) _ ≤ n; omega) hsub h
        rw [List.map_append, List.map_append] at hrec
        refine .step ?_ (hrec ?_)
        · unfold linN
          by_cases h : e.2 ∈ Z.map (·.1)
          · rw [if_pos h, if_pos (hkn.1 h), hn1]
            obtain ⟨p, hp, e1⟩ := List.mem_map.1 h
            have e2 := (h1 p (hZ p hp) _ hef).1 e1
            have e3 := idx_zip (h1.sub hZ) hp
            rw [e1, e2] at e3
            rw [e3]
          · rw [if_neg h, if_neg (fun c => h (hkn.2 c)), hn1, g1, g2, all2_len g3]
            simp
        · refine all2_join hrs ?_
          unfold moreN
          by_cases h : e.2 ∈ Z.map (·.1)
          · rw [if_pos h, if_pos (hkn.1 h)]; exact trivial
          · rw [if_neg h, if_neg (fun c => h (hkn.2 c))]; exact all2_rev g3
abbrev rootE : Ent := ([], 1)
theorem agree_shape {a b : List Nd} (ta : Tree a) (tb : Tree b) (sa : ∀ i, sortP (getN a i).ents) (sb : ∀ i, sortP (getN b i).ents) : Agree a b [rootE] [] [rootE] [] ↔ shapeN a = shapeN b := by
  constructor
  · intro h
    obtain ⟨F, _, h1, h2, h3⟩ := agree_pairs h [] rfl rfl (fun p hp => nomatch hp)
    exact pairs_shape ta tb h1 h2.1.2 (fun p hp => (h3 p hp).resolve_left (fun c => nomatch c))
  · intro h
    obtain ⟨F, h1, h2, h3⟩ := shape_pairs ta tb sa sb h
    exact pairs_agree h1 h3 _ [rootE] [rootE] [] (Nat.le_refl _) (fun p hp => nomatch hp) ⟨⟨rfl, h2⟩, trivial⟩
end Go.Proofs.Ytpeghnhaekebdaa

/- Maps of first places, by inodes' numbers. -/
set_option linter.unusedVariables false
set_option linter.unusedSimpArgs false
namespace Go.Proofs.Ytpeghnhaekebdaa
open Go.RowKit

theorem key16 : Go.Maps.Keyed Try.prog 3 := Go.Maps.int_keyed Try.underlying3
theorem zero16 (w : World) : (zeroValue 3).run Try.prog w = .ok (.int .i64 0) w := by kernel_rfl
/-- A number that an int holds. -/
abbrev IntB (i : Int) : Prop := (Lit.int .i64 i).wf = true
theorem int_b {i : Int} (h0 : 0 ≤ i) (h1 : i ≤ 1099511627776) : IntB i := by
  have h2 : IntKind.i64.min = -9223372036854775808 := by decide
  simp only [IntB, Lit.wf, Bool.and_eq_true, decide_eq_true_eq]
  simp [h2]
  omega
/-- Block b is a map of the places at which the numbers of S stand first. -/
def Firsts (w : World) (b : Nat) (S : List Int) : Prop :=
  ∃ n, ∃ D : DataW Value, w.ownsMap Try.prog 3 (plainElem Try.prog 3) b n D ∧ n ≤ S.length ∧ ∀ i, IntB i → Go.Maps.has D (.int .i64 i) = decide (i ∈ S) ∧ (i ∈ S → ∀ z, D.atKey (.int .i64 i) z = .lit (.int .i64 (idxN S i : Nat)))
theorem Firsts.made (w : World) : Firsts (w.alloc (.map #[] 0)) w.heap.size [] :=
  ⟨0, .map [], World.ownsMap_made _ _ _ _, Nat.le_refl _, fun i _ => ⟨by simp [Go.Maps.has], fun h => nomatch h⟩⟩
theorem Firsts.lt {w : World} {b : Nat} {S : List Int} (h : Firsts w b S) : b < w.heap.size := by
  obtain ⟨n, D, ho, _⟩ := h
  exact ho.lt
theorem Firsts.kept {w w' : World} {b : Nat} {S : List Int} {row : Option Nat} (h : Firsts w b S) (hg : w.grownBy w' row) (hne : some b ≠ row) : Firsts w' b S := by
  obtain ⟨n, D, ho, h1, h2⟩ := h
  exact ⟨n, D, ho.kept hg hne, h1, h2⟩
theorem Firsts.block {w W : World} {b : Nat} {S : List Int} (h : Firsts w b S) (hB : W.heap[b]? = w.heap[b]?) : Firsts W b S := by
  obtain ⟨n, D, ⟨es, clock, hb, F, hs, hD⟩, h1, h2⟩ := h
  exact ⟨n, D, ⟨es, clock, hB.trans hb, F, hs, hD⟩, h1, h2⟩
theorem Firsts.next {w W : World} {b : Nat} {S : List Int} (h : Firsts w b S) (hB : Below w.heap.size w W) : Firsts W b S := h.block (hB.block b h.lt)
theorem Firsts.look {w : World} {b : Nat} {S : List Int} (h : Firsts w b S) {z : Int} (hz : IntB z) :
    (Instr.lookup 40 (.map (some b)) (.int .i64 z) true).run Try.prog w = .ok (.tuple #[.int .i64 (if z ∈ S then (idxN S z : Nat) else 0), .bool (decide (z ∈ S))]) w := by
  obtain ⟨n, D, ho, _, hD⟩ := h
  obtain ⟨x, ps, hrun, hx⟩ := ho.look_ok key16 Try.underlying40 (zero16 w) (zd := .lit (.int .i64 0)) (zp := []) (plainElem_int Try.underlying3 (by decide)) (Go.Maps.keyOf_int_mk Try.underlying3 hz)
  obtain ⟨c, rfl, hc, _⟩ := plainElem_int_inv Try.underlying3 hx
  obtain ⟨h1, h2⟩ := hD z hz
  rw [hrun, h1]
  by_cases hS : z ∈ S
  · rw [h2 hS] at hc
    rw [if_pos hS]
    simp only [Prod.mk.injEq, DataW.lit.injEq, Lit.int.injEq, true_and, and_true] at hc
    rw [hc.1]
  · rw [Go.Maps.atKey_of_not_has (by rw [h1]; simpa using hS)] at hc
    rw [if_neg hS]
    simp only [Prod.mk.injEq, DataW.lit.injEq, Lit.int.injEq, true_and, and_true] at hc
    rw [← hc.1]
theorem Firsts.put {w : World} {b : Nat} {S : List Int} (h : Firsts w b S) {z : Int} (hz : IntB z) (hn : z ∉ S) (hl : S.length ≤ 1000000) :
    ∃ w', (Instr.mapUpdate 40 (.map (some b)) (.int .i64 z) (.int .i64 (S.length : Nat))).run Try.prog w = .ok () w' ∧ Firsts w' b (S ++ [z]) ∧ w.grownBy w' (some b) := by
  obtain ⟨n, D, ho, hle, hD⟩ := h
  have hm := ho.isMap
  obtain ⟨w', hrun, r1, r2⟩ := ho.update key16 Try.underlying40 (by unfold maxLen; omega) (Go.Maps.keyOf_int_mk Try.underlying3 hz) (val := .int .i64 (S.length : Nat)) (d := .lit (.int .i64 (S.length : Nat))) (ps := []) (plainElem_int Try.underlying3 (int_b (by omega) (by omega)))
  refine ⟨w', hrun, ⟨n + 1, _, r1, by rw [List.length_append]; simp; omega, fun i hi => ?_⟩, r2⟩
  obtain ⟨h1, h2⟩ := hD i hi
  by_cases e : i = z
  · subst e
    refine ⟨?_, fun _ y => ?_⟩
    · rw [Go.Maps.has_put_same hm (by trivial)]; simp
    · rw [Go.Maps.atKey_put_same hm (by trivial), idx_new hn]
  · have hne : Lit.int .i64 i ≠ Lit.int .i64 z := fun c => e (by simpa using c)
    refine ⟨?_, fun hS y => ?_⟩
    · rw [Go.Maps.has_put_other hne, h1]
      simp [e]
    · have hS2 : i ∈ S := by simpa [e] using hS
      rw [Go.Maps.atKey_put_other hne, h2 hS2, idx_more hS2]
theorem Firsts.again {w : World} {b : Nat} {S : List Int} (h : Firsts w b S) {z : Int} (hn : z ∈ S) : Firsts w b (S ++ [z]) := by
  obtain ⟨n, D, ho, hle, hD⟩ := h
  refine ⟨n, D, ho, by rw [List.length_append]; simp; omega, fun i hi => ?_⟩
  obtain ⟨h1, h2⟩ := hD i hi
  have hm : i ∈ S ++ [z] ↔ i ∈ S := by
    rw [List.mem_append, List.mem_singleton]
    exact ⟨fun h => h.elim id (by rintro rfl; exact hn), .inl⟩
  exact ⟨by rw [h1]; simp [hm], fun hS y => by rw [h2 (hm.1 hS), idx_more (hm.1 hS)]⟩
end Go.Proofs.Ytpeghnhaekebdaa

/- What stands below a number, but for one block. -/
set_option linter.unusedVariables false
set_option linter.unusedSimpArgs false
namespace Go.Proofs.Ytpeghnhaekebdaa
open Go.RowKit

def But16 (m n : Nat) (w w' : World) : Prop := w.heap.size ≤ w'.heap.size ∧ ∀ b, b < n → b ≠ m → w'.heap[b]? = w.heap[b]?
theorem But16.refl (m n : Nat) (w : World) : But16 m n w w := ⟨Nat.le_refl _, fun _ _ _ => rfl⟩
theorem But16.trans {m n : Nat} {a b c : World} (h : But16 m n a b) (k : But16 m n b c) : But16 m n a c := ⟨Nat.le_trans h.1 k.1, fun i h1 h2 => (k.2 i h1 h2).trans (h.2 i h1 h2)⟩
theorem But16.down {m n k : Nat} {a b c : World} (h : But16 m n a b) (hb : Below k b c) (hk : n ≤ k) : But16 m n a c := h.trans ⟨hb.size, fun i h1 _ => hb.block i (by omega)⟩
theorem But16.grown {m n : Nat} {a b c : World} {row : Option Nat} (h : But16 m n a b) (hg : b.grownBy c row) (hn : n ≤ b.heap.size) (hr : ∀ g, row = some g → g = m ∨ n ≤ g) : But16 m n a c :=
  h.trans ⟨hg.size, fun i h1 h2 => hg.block i (by omega) (fun e => (hr i e.symm).elim (fun e => h2 e) (fun e => by omega))⟩
theorem But16.cell {m n : Nat} {w w' : World} (h : But16 m n w w') {p : Addr} (h1 : p.block < n) (h2 : p.block ≠ m) : w'.cell? p = w.cell? p := World.cell?_of_block (h.2 _ h1 h2)
theorem But16.blk {m n B : Nat} {w w' : World} {t : TypeId} {cs : Array Value} (h : But16 m n w w') (hb : Blk w B t cs) (h1 : B < n) (h2 : B ≠ m) : Blk w' B t cs := (h.2 B h1 h2).trans hb

/-! ### The first places of the walk's steps -/
def inosT (L : List Ent) (k : Nat) : List Int := (L.take k).map (·.2)
theorem inosT_next {L : List Ent} {k : Nat} (h : k < L.length) : inosT L (k + 1) = inosT L k ++ [L[k].2] := by
  unfold inosT
  rw [List.take_succ_eq_append_getElem h, List.map_append]; rfl
theorem inosT_len {L : List Ent} {k : Nat} (h : k ≤ L.length) : (inosT L k).length = k := by
  unfold inosT
  rw [List.length_map, List.length_take]
  omega
theorem first_split (L : List Ent) (k : Nat) (i : Int) : firstE L i = if idxN (inosT L k) i < (inosT L k).length then idxN (inosT L k) i else firstE (L.drop k) i + (inosT L k).length := by
  have e : firstE L i = firstE (L.take k ++ L.drop k) i := by rw [List.take_append_drop]
  rw [e]
  unfold firstE idxN inosT
  rw [List.findIdx_append, List.findIdx_map, List.length_map]
  rfl
theorem first_known {L : List Ent} {k : Nat} {i : Int} (h : i ∈ inosT L k) : idxN (inosT L k) i = firstE L i := by
  rw [first_split L k i, if_pos (idx_lt h)]
theorem first_new {L : List Ent} {k : Nat} (hk : k < L.length) (h : L[k].2 ∉ inosT L k) : firstE L L[k].2 = k := by
  have h2 : ¬ idxN (inosT L k) L[k].2 < (inosT L k).length := fun c => h (by have := idx_at c; rw [← this]; exact List.getElem_mem c)
  rw [first_split L k, if_neg h2, inosT_len (by omega), List.drop_eq_getElem_cons hk]
  unfold firstE
  rw [List.findIdx_cons]
  simp
end Go.Proofs.Ytpeghnhaekebdaa

/- Walks: the document's Names, and its rule 4. -/
set_option linter.unusedVariables false
set_option linter.unusedSimpArgs false
namespace Go.Proofs.Ytpeghnhaekebdaa
open Go.RowKit

theorem int_one {n : Nat} (h : ((n : Int) != 1) = false) : n = 1 := by
  have : (n : Int) = 1 := by simpa using h
  omega
theorem int_zero {n : Nat} (h : ((n : Int) != 0) = false) : n = 0 := by
  have : (n : Int) = 0 := by simpa using h
  omega

set_option maxHeartbeats 4000000 in
theorem refNamesN_any (mi mb nx i : Int) (l : List Nd) (v : Value) (w : World) (hv : Nds w v l) (hl : l.length ≤ 1000000) (hp : (pairsN l).length ≤ 1000000000000) :
    Calls Try.prog 42 #[.agg (fsC mi mb nx v), .int .i64 i] w fun e w' => e = .returned (.tuple #[.int .i64 (namesN l i : Int), .int .i64 (inN l i)]) ∧ Below w.heap.size w w' := by
  obtain ⟨a, ca, rfl, hc, hm, hea, hna, HA0⟩ := id hv
  unfold maxLen at hm
  have HA := Lib.hid HA0
  have HE := Lib.hid hea
  clear HA0 hea hv
  have b0 := Blk.new w 24 (fsC mi mb nx (.slice a l.length ca))
  have hB0 := alloc_below w (.cells (fsC mi mb nx (.slice a l.length ca)) 24)
  go_enter Try.func42, Try.ntmps42
  go_wp2
  generalize w.alloc (.cells (fsC mi mb nx (.slice a l.length ca)) 24) = w1 at *
  have p3 := b0.four.1.2.2.2
  go_loopw [6, 7, 8] (fun s6 s7 s8 wr => ∃ k : Nat, k ≤ l.length ∧ s8 = .int .i64 k ∧ s6 = .int .i64 (cntP (pairsN (l.take k)) i : Int) ∧ s7 = .int .i64 (lastP (pairsN (l.take k)) i) ∧ wr = w1) (fun _ _ s8 _ => l.length - (intOf s8).toNat)
  case atStart => exact ⟨0, Nat.zero_le _, rfl, rfl, rfl, rfl⟩
  case round =>
    obtain ⟨k, hk, rfl, rfl, rfl, rfl⟩ := hrel
    by_cases hlt : k < l.length
    · obtain ⟨b, o, rfl, hb, hcl⟩ := HA.out (by omega)
      obtain ⟨c0, c1, c2, c3, c4, c5⟩ := (hcl k hlt).below hB0 hb
      clear hcl
      have hE := HE.out _ (List.getElem_mem hlt)
      have hz0 := pairsT_zero l k
      have hnx := fun m (hm : m < l[k].ents.length) => pairsT_next hlt hm
      have hen := pairsT_end hlt
      have hle := fun m => Nat.le_trans (cntP_le (pairsT l k m) i) (Nat.le_trans (pairsT_len l k m) hp)
      have HZ := Lib.hid hz0
      have HX := Lib.hid hnx
      have HL := Lib.hid hle
      rw [← hz0]
      clear hz0 hnx hle
      generalize l[k] = y at *
      have HEN := Lib.hid hen
      clear hen
      obtain ⟨yi, yk, yl, yd, yp, ye, yn⟩ := y
      dsimp only at hE c0 c1 c2 c3 c4 c5
      obtain ⟨ae, ne, rfl, hE1, hE2, hE3⟩ := id hE
      unfold maxLen at hE2
      have HC := Lib.hid hE3
      clear hE3 hE
      have k0 : (0 : Int) ≤ (k : Int) := by omega
      have k1 : (k : Int) < (l.length : Int) := by omega
      go_wp2
      go_loopw [6, 7, 9] (fun s6 s7 s9 wq => ∃ m : Nat, m ≤ yn.length ∧ s9 = .int .i64 m ∧ s6 = .int .i64 (cntP (pairsT l k m) i : Int) ∧ s7 = .int .i64 (lastP (pairsT l k m) i) ∧ wq = wr) (fun _ _ s9 _ => yn.length - (intOf s9).toNat)
      case atStart => exact ⟨0, Nat.zero_le _, rfl, rfl, rfl, rfl⟩
      case round =>
        obtain ⟨m, hm2, rfl, rfl, rfl, rfl⟩ := hrel
        by_cases hmlt : m < yn.length
        · obtain ⟨be, oe, rfl, hbe, hce⟩ := HC.out (by omega)
          have d1 := (hB0.cell (p := ⟨be, oe + m * 2 + 1, none⟩) hbe).trans (hce m hmlt).2
          clear hce
          have m0 : (0 : Int) ≤ (m : Int) := by omega
          have m1 : (m : Int) < (yn.length : Int) := by omega
          have hcn : cntP (pairsT l k (m + 1)) i = if yn[m].2 == i then cntP (pairsT l k m) i + 1 else cntP (pairsT l k m) i := by rw [HX.out m hmlt]; exact cntP_next _ _ _
          have hln : lastP (pairsT l k (m + 1)) i = if yn[m].2 == i then yi else lastP (pairsT l k m) i := by rw [HX.out m hmlt]; exact lastP_next _ _ _
          have hbd := HL.out (m + 1)
          generalize yn[m].2 = z at *
          generalize cntP (pairsT l k m) i = U at *
          generalize lastP (pairsT l k m) i = V at *
          cases h : (z == i)
          · rw [h, if_neg (by simp)] at hcn hln
            have H1 := Lib.hid hcn
            have H2 := Lib.hid hln
            clear hcn hln hbd
            go_wp2
            go_roundw
            case rel => exact ⟨m + 1, by omega, by go_num, by rw [H1.out], by rw [H2.out], trivial⟩
            case measure => simp [intOf]; omega
          · rw [h, if_pos rfl] at hcn hln
            rw [hcn] at hbd
            have H1 := Lib.hid hcn
            have H2 := Lib.hid hln
            clear hcn hln
            go_wp2
            go_roundw
            case rel => exact ⟨m + 1, by omega, by go_num, by rw [H1.out]; go_num, by rw [H2.out], trivial⟩
            case measure => simp [intOf]; omega
        · obtain rfl : m = yn.length := by omega
          have H1 := Lib.hid HEN.out
          go_wp2
          go_roundw
          case rel => exact ⟨k + 1, by omega, by go_num, by rw [H1.out], by rw [H1.out], trivial⟩
          case measure => simp [intOf]; omega
    · obtain rfl : k = l.length := by omega
      have H1 := Lib.hid (pairs_all l)
      go_wp2
      go_ret2
      exact ⟨by rw [H1.out]; rfl, hB0⟩

set_option maxHeartbeats 8000000 in
set_option maxRecDepth 100000 in
theorem refFourth_any (mi mb nx : Int) (l : List Nd) (v : Value) (w : World) (hv : Nds w v l) (hl : l.length ≤ 1000000) (hp : (pairsN l).length ≤ 1000000000000) :
    Calls Try.prog 30 #[.agg (fsC mi mb nx v)] w fun e w' => e = .returned (.bool (fourthB l)) ∧ Below w.heap.size w w' := by
  obtain ⟨a, ca, rfl, hc, hm, hea, hna, HA0⟩ := id hv
  unfold maxLen at hm
  have HA := Lib.hid HA0
  have HV := Lib.hid hv
  clear HA0 hea hv
  have b0 := Blk.new w 24 (fsC mi mb nx (.slice a l.length ca))
  have hB0 := alloc_below w (.cells (fsC mi mb nx (.slice a l.length ca)) 24)
  go_enter Try.func30, Try.ntmps30
  go_wp2
  go_loopw [3] (fun s3 wr => ∃ k : Nat, k ≤ l.length ∧ s3 = .int .i64 k ∧ Aside ((l.take k).all (fourthX l) = true) ∧ Below w.heap.size w wr ∧ Aside (Blk wr w.heap.size 24 (fsC mi mb nx (.slice a l.length ca)))) (fun s3 _ => l.length - (intOf s3).toNat)
  case atStart => exact ⟨0, Nat.zero_le _, rfl, by (show _ = _); simp, hB0, b0⟩
  case round =>
    clear b0 hB0
    obtain ⟨k, hk, rfl, HT, hbw, HB⟩ := hrel
    have p3 := HB.out.four.1.2.2.2
    by_cases hlt : k < l.length
    · obtain ⟨b, o, rfl, hb, hcl⟩ := HA.out (by omega)
      obtain ⟨c0, c1, c2, c3, c4, c5⟩ := (hcl k hlt).below hbw hb
      clear hcl
      have hno : fourthX l l[k] = false → fourthB l = false := all_no hlt
      have hye : fourthX l l[k] = true → (l.take (k + 1)).all (fourthX l) = true := allT_next hlt HT.out
      have hE := HV.out.all _ (List.getElem_mem hlt)
      generalize l[k] = y at *
      have HNO := Lib.hid hno
      have HYE := Lib.hid hye
      clear hno hye HT
      obtain ⟨yi, yk, yl, yd, yp, ye, yn⟩ := y
      dsimp only at hE c0 c1 c2 c3 c4 c5
      obtain ⟨ae, ne, rfl, _⟩ := id hE
      clear hE
      have k0 : (0 : Int) ≤ (k : Int) := by omega
      have k1 : (k : Int) < (l.length : Int) := by omega
      have b1 := alloc_below wr (.cells (ndC ⟨yi, yk, yl, yd, yp, .slice ae yn.length ne, yn⟩) 33)
      have hB1 := hbw.trans (b1.mono hbw.size)
      have F1 := HB.out.next b1
      have X1 := Blk.new wr 33 (ndC ⟨yi, yk, yl, yd, yp, .slice ae yn.length ne, yn⟩)
      obtain ⟨⟨p0, p1, p2, p3⟩, _⟩ := F1.four
      obtain ⟨⟨s0, s1, s2, s3, s4, s5⟩, _⟩ := X1.six
      dsimp only at s0 s1 s2 s3 s4 s5
      have hNc := refNamesN_any mi mb nx yi l _ _ (HV.out.below hB1) hl hp
      have HX : Hid (fourthX l ⟨yi, yk, yl, yd, yp, .slice ae yn.length ne, yn⟩ = (decide (yl = (namesN l yi : Int)) && (if yi = 1 then decide (namesN l yi = 0) && decide (yp = 1) else decide (1 ≤ namesN l yi) && (if yk = 2 then decide (namesN l yi = 1) && decide (yp = inN l yi) else true)))) := rfl
      go_wp2_with fail
      refine hNc.mono ?_
      rintro e w2 ⟨rfl, b2⟩
      clear hNc
      generalize namesN l yi = n at *
      generalize inN l yi = d at *
      have X2 := X1.next b2
      have F2 := F1.next b2
      have hB2 := hB1.trans (b2.mono hB1.size)
      clear s0 s1 s2 s3 s4 s5 p0 p1 p2 p3
      obtain ⟨⟨s0, s1, s2, s3, s4, s5⟩, _⟩ := X2.six
      dsimp only at s0 s1 s2 s3 s4 s5
      cases h1 : (yl != (n : Int))
      · have e1 : yl = (n : Int) := by simpa using h1
        cases h2 : (yi == 1)
        · have e2 : ¬ yi = 1 := by simpa using h2
          by_cases h3 : (n : Int) < 1
          · have HN := Lib.hid (HNO.out (HX.out.trans (by rw [decide_eq_true e1, if_neg e2, show decide (1 ≤ n) = false from decide_eq_false (by omega)]; rfl)))
            clear HNO HYE HX
            go_wp2
            go_ret
            exact ⟨ret_bool (by rw [HN.out]), hB2⟩
          · have e3 : decide (1 ≤ n) = true := decide_eq_true (by omega)
            cases h4 : (yk == 2)
            · have HT2 := Lib.hid (HYE.out (HX.out.trans (by rw [decide_eq_true e1, if_neg e2, e3, if_neg (show ¬ yk = 2 by simpa using h4)]; rfl)))
              clear HNO HYE HX
              go_wp2
              go_roundw
              case rel => exact ⟨k + 1, by omega, by go_num, HT2.out, hB2, F2⟩
              case measure => simp [intOf]; omega
            · cases h5 : ((n : Int) != 1)
              · cases h6 : (yp != d)
                · have HT2 := Lib.hid (HYE.out (HX.out.trans (by rw [decide_eq_true e1, if_neg e2, e3, if_pos (show yk = 2 by simpa using h4), decide_eq_true (int_one h5), decide_eq_true (show yp = d by simpa using h6)]; rfl)))
                  clear HNO HYE HX
                  go_wp2
                  go_roundw
                  case rel => exact ⟨k + 1, by omega, by go_num, HT2.out, hB2, F2⟩
                  case measure => simp [intOf]; omega
                · have HN := Lib.hid (HNO.out (HX.out.trans (by rw [if_neg e2, if_pos (show yk = 2 by simpa using h4), decide_eq_false (show ¬ yp = d by simpa using h6)]; simp)))
                  clear HNO HYE HX
                  go_wp2
                  go_ret
                  exact ⟨ret_bool (by rw [HN.out]), hB2⟩
              · have HN := Lib.hid (HNO.out (HX.out.trans (by rw [if_neg e2, if_pos (show yk = 2 by simpa using h4), decide_eq_false (show ¬ n = 1 by rintro rfl; simp at h5)]; simp)))
                clear HNO HYE HX
                go_wp2
                go_ret
                exact ⟨ret_bool (by rw [HN.out]), hB2⟩
        · have e2 : yi = 1 := by simpa using h2
          cases h3 : ((n : Int) != 0)
          · cases h4 : (yp != 1)
            · have HT2 := Lib.hid (HYE.out (HX.out.trans (by rw [decide_eq_true e1, if_pos e2, decide_eq_true (int_zero h3), decide_eq_true (show yp = 1 by simpa using h4)]; rfl)))
              clear HNO HYE HX
              go_wp2
              go_roundw
              case rel => exact ⟨k + 1, by omega, by go_num, HT2.out, hB2, F2⟩
              case measure => simp [intOf]; omega
            · have HN := Lib.hid (HNO.out (HX.out.trans (by rw [if_pos e2, decide_eq_false (show ¬ yp = 1 by simpa using h4)]; simp)))
              clear HNO HYE HX
              go_wp2
              go_ret
              exact ⟨ret_bool (by rw [HN.out]), hB2⟩
          · have HN := Lib.hid (HNO.out (HX.out.trans (by rw [if_pos e2, decide_eq_false (show ¬ n = 0 by rintro rfl; simp at h3)]; simp)))
            clear HNO HYE HX
            go_wp2
            go_ret
            exact ⟨ret_bool (by rw [HN.out]), hB2⟩
      · have HN := Lib.hid (HNO.out (HX.out.trans (by rw [decide_eq_false (show ¬ yl = (n : Int) by simpa using h1)]; rfl)))
        clear HNO HYE HX
        go_wp2
        go_ret
        exact ⟨ret_bool (by rw [HN.out]), hB2⟩
    · obtain rfl : k = l.length := by omega
      have HN : Hid (fourthB l = true) := allT_end HT.out
      go_wp2
      go_ret
      exact ⟨ret_bool (by rw [HN.out]), hbw⟩
end Go.Proofs.Ytpeghnhaekebdaa

/- Walks: the document's rule 5. -/
set_option linter.unusedVariables false
set_option linter.unusedSimpArgs false
namespace Go.Proofs.Ytpeghnhaekebdaa
open Go.RowKit

theorem infoI : (Try.prog.info? 3).map (fun i => (i.zero, i.size, i.bytes)) = some (some (.int .i64 0), 1, 8) := by kernel_rfl
def intsV (l : List Int) : List Value := l.map (.int .i64 ·)
theorem intsV_at {l : List Int} {i : Nat} (h : i < l.length) : (intsV l)[i]? = some (.int .i64 l[i]) := by simp [intsV, h]
theorem own_int {w : World} {base : Nat} {e : TypeId} {g cap : Nat} {n : Nat} {l : List Int} (h : w.ownsRow base e 1 (.slice (some ⟨g, 0, none⟩) n cap) n (intsV l)) (hn : n = l.length) {i : Nat} (hi : i < l.length) : w.cell? ⟨g, i, none⟩ = some (.int .i64 l[i]) := by
  rw [h.cellAt i (by omega), intsV_at hi]
theorem see_bound {l : List Nd} (h3 : thirdB l = true) (h1 : hasN l 1 = true) (k m : Nat) (i : Int) : (seeB (bfsN l k) ((getN l i).ents.take m)).length ≤ l.length := by
  have hh : ∀ z ∈ seeB (bfsN l k) ((getN l i).ents.take m), hasN l z = true :=
    see_has _ _ (fun i => hasN l i = true) (bfs_has h3 h1 k) (fun e he => get_ents_has h3 i e (List.mem_of_mem_take he))
  have := len_sub _ _ (see_nodup _ ((getN l i).ents.take m) (bfs_nodup l k)) (fun z hz => has_inos (hh z hz))
  simpa using this
theorem fifth_end {l : List Nd} (h3 : thirdB l = true) (h1 : hasN l 1 = true) {k : Nat} (h : (bfsN l k).length ≤ k) (hk : k ≤ l.length + 1) : fifthB l = decide ((bfsN l k).length = l.length) := by
  unfold fifthB; rw [bfs_end h3 h1 h hk]
theorem hasT_next {s : List Int} {j : Nat} {z : Int} (h : j < s.length) : (s.take (j + 1)).contains z = ((s.take j).contains z || (s[j] == z)) := by
  rw [List.take_succ_eq_append_getElem h]
  simp only [List.contains_eq_mem, List.mem_append, List.mem_singleton, Bool.decide_or]
  congr 1
  by_cases e : z = s[j]
  · rw [decide_eq_true e]; simp [e]
  · rw [decide_eq_false e]
    have : (s[j] == z) = false := by simpa using fun h : s[j] = z => e h.symm
    rw [this]

theorem own_ne {w : World} {base : Nat} {e t : TypeId} {size g cap n : Nat} {xs : List Value} {B : Nat} {cs : Array Value} (h : w.ownsRow base e size (.slice (some ⟨g, 0, none⟩) n cap) n xs) (hb : Blk w B t cs) (hne : e ≠ t) : g ≠ B := by
  intro hgb
  subst hgb
  rcases h.2 with ⟨h', _⟩ | ⟨g', cap', cur, h', _, hg, _⟩
  · simp at h'
  · simp only [Value.slice.injEq, Option.some.injEq, Addr.mk.injEq, and_true, true_and] at h'
    obtain ⟨rfl, _⟩ := h'
    have := hg.symm.trans hb
    simp at this
    exact hne this.2
theorem cast_beq (a b : Nat) : (((a : Nat) : Int) == ((b : Nat) : Int)) = decide (a = b) := by
  rw [Bool.eq_iff_iff]; simp; omega

set_option maxHeartbeats 8000000 in
set_option maxRecDepth 100000 in
theorem refFifth_any (mi mb nx : Int) (l : List Nd) (v : Value) (w : World) (hv : Nds w v l) (hl : l.length ≤ 1000000) (h3 : thirdB l = true) (h1 : hasN l 1 = true) :
    Calls Try.prog 31 #[.agg (fsC mi mb nx v)] w fun e w' => e = .returned (.bool (fifthB l)) ∧ Below w.heap.size w w' := by
  obtain ⟨i0, hi, hz0, hz1, hz2⟩ := info_parts infoI
  obtain ⟨a, ca, rfl, hc, hm, _, hna, _⟩ := id hv
  unfold maxLen at hm
  have HV := Lib.hid hv
  have HB3 := Lib.hid (show ∀ k, (bfsN l k).length ≤ l.length from bfs_len h3 h1)
  have HSB := Lib.hid (see_bound h3 h1)
  have HFE := Lib.hid (fun k => fifth_end (l := l) h3 h1 (k := k))
  clear hv h3 h1
  have b0 := (Blk.new w 24 (fsC mi mb nx (.slice a l.length ca))).alloc (.cells #[.int .i64 1] 3)
  have hB0 : Below w.heap.size w ((w.alloc (.cells (fsC mi mb nx (.slice a l.length ca)) 24)).alloc (.cells #[.int .i64 1] 3)) := ((Below.refl _ w).alloc (Nat.le_refl _) _).alloc (by simp) _
  have own0 : ((w.alloc (.cells (fsC mi mb nx (.slice a l.length ca)) 24)).alloc (.cells #[.int .i64 1] 3)).ownsRow (w.heap.size + 1) 3 1 (.slice (some ⟨(w.alloc (.cells (fsC mi mb nx (.slice a l.length ca)) 24)).heap.size, 0, none⟩) 1 1) 1 (intsV [1]) := World.ownsRow_lit _ #[.int .i64 1] 1 (by simp) (by decide) rfl
  simp only [World.size_alloc] at own0
  go_enter Try.func31, Try.ntmps31
  go_wp2
  go_loopw [3, 4] (fun s3 s4 wr => ∃ k : Nat, s4 = .int .i64 k ∧ k ≤ (bfsN l k).length ∧ Below w.heap.size w wr ∧ Aside (Blk wr w.heap.size 24 (fsC mi mb nx (.slice a l.length ca))) ∧ Aside (wr.ownsRow (w.heap.size + 1) 3 1 s3 (bfsN l k).length (intsV (bfsN l k)))) (fun _ s4 _ => l.length + 1 - (intOf s4).toNat)
  case atStart => exact ⟨0, rfl, Nat.zero_le _, hB0, b0, own0⟩
  case round =>
    clear b0 hB0 own0
    obtain ⟨k, rfl, hk, hbw, HB, HO⟩ := hrel
    have hkl := HB3.out k
    obtain ⟨a3, c3, rfl⟩ := own_slice HO.out
    obtain ⟨⟨p0, p1, p2, p3⟩, _⟩ := HB.out.four
    by_cases hlt : k < (bfsN l k).length
    · have hnx := bfs_next hlt
      have hsb := HSB.out k
      have hBlt := HB.out.lt
      obtain ⟨g, rfl⟩ : ∃ g, a3 = some ⟨g, 0, none⟩ := by
        rcases own_cases HO.out with ⟨_, h0, _⟩ | ⟨g, cap, h, _⟩
        · omega
        · simp only [Value.slice.injEq] at h; exact ⟨g, h.1⟩
      have hgb := (HO.out.lt g rfl).1
      generalize hS0 : bfsN l k = S0 at *
      have HS0 := Lib.hid hS0
      clear hS0
      have d0 := own_int HO.out rfl hlt
      generalize S0[k] = z at *
      have hsz := hsb 
      have k0 : (0 : Int) ≤ (k : Int) := by omega
      have k1 : (k : Int) < (S0.length : Int) := by omega
      have hEG := get_ents HV.out.all z
      obtain ⟨ag, ng, cg, hgs⟩ := get_slice HV.out z
      have hdr : Below wr.heap.size wr wr.drew := (Below.refl _ _).drew
      have hdr2 : Below wr.heap.size wr (wr.alloc (.cells #[.int .i64 0, .int .i64 0, .int .i64 0, .string ⟨#[]⟩, .int .i64 0, .slice none 0 0] 33)).drew := (alloc_below wr _).drew
      have hGc : ∀ W, Below wr.heap.size wr W → Calls Try.prog 21 #[.agg (fsC mi mb nx (.slice a l.length ca)), .int .i64 z] W fun e w' => e = .returned (.tuple #[.agg (ndC (getN l z)), .bool (hasN l z)]) ∧ Below W.heap.size W w' :=
        fun W hW => refGetT_any mi mb nx z l _ _ (HV.out.below (hbw.trans (hW.mono hbw.size)))
      have HMK : ∀ W, Below wr.heap.size wr W → (W.cell? ⟨w.heap.size, 0, none⟩ = some (.int .i64 mi) ∧ W.cell? ⟨w.heap.size, 1, none⟩ = some (.int .i64 mb) ∧ W.cell? ⟨w.heap.size, 2, none⟩ = some (.int .i64 nx) ∧ W.cell? ⟨w.heap.size, 3, none⟩ = some (.slice a l.length ca) ∧ W.cell? ⟨g, k, none⟩ = some (.int .i64 z)) := by
        intro W h
        obtain ⟨⟨x0, x1, x2, x3⟩, _⟩ := (HB.out.next h).four
        exact ⟨x0, x1, x2, x3, (h.cell (p := ⟨g, k, none⟩) (HO.out.lt g rfl).2).trans d0⟩
      have hsb2 := fun m => hsb m z
      clear hsb hsz
      generalize getN l z = G at *
      obtain ⟨gi, gk, gl, gd, gp, ge, gn⟩ := G
      dsimp only at hgs hEG hsb2 hnx
      subst hgs
      have HEG := Lib.hid hEG
      have HSB2 := Lib.hid hsb2
      have HNX := Lib.hid hnx
      clear hEG hsb2 hnx
      generalize hasN l z = r at *
      have hG1 := hGc _ hdr
      have hG2 := hGc _ hdr2
      have hG3 := hGc (wr.drew.alloc (.cells #[.int .i64 0, .int .i64 0, .int .i64 0, .string ⟨#[]⟩, .int .i64 0, .slice none 0 0] 33)) (hdr.alloc hdr.size _)
      have hq := hdr
      go_upto_region 5 with fail
      go_cut [5, 6] from 17 to 25 (fun s5 s6 wc => ∃ BX, s5 = .pointer (some ⟨BX, 0, none⟩) ∧ Below wr.heap.size wr wc ∧ Aside (Blk wc BX 33 (ndC ⟨gi, gk, gl, gd, gp, .slice ag ng cg, gn⟩) ∧ wr.heap.size ≤ BX))
      case first =>
        clear p0 p1 p2 p3 d0
        go_region_held3 (fun W => W.cell? ⟨w.heap.size, 0, none⟩ = some (.int .i64 mi) ∧ W.cell? ⟨w.heap.size, 1, none⟩ = some (.int .i64 mb) ∧ W.cell? ⟨w.heap.size, 2, none⟩ = some (.int .i64 nx) ∧ W.cell? ⟨w.heap.size, 3, none⟩ = some (.slice a l.length ca) ∧ W.cell? ⟨g, k, none⟩ = some (.int .i64 z))
          (first | with_reducible exact HMK _ hq | with_reducible exact HMK _ (hq.alloc hq.size _) | with_reducible exact HMK _ hdr2 | with_reducible exact HMK _ (below_grown hq hgW (Nat.le_refl _) (Nat.le_refl _)))
          (first
            | (go_at_call 21; with_reducible refine hG1.mono ?_; rintro e w6 ⟨rfl, b6⟩; have hq := hq.trans (b6.mono hq.size))
            | (go_at_call 21; (first | with_reducible refine hG3.mono ?_ | with_reducible refine hG2.mono ?_); rintro e w6 ⟨rfl, b6⟩; have hbx : Blk w6 wr.heap.size 33 (ndC zeroN) := Blk.next (W := wr.drew.alloc (.cells #[.int .i64 0, .int .i64 0, .int .i64 0, .string ⟨#[]⟩, .int .i64 0, .slice none 0 0] 33)) (Blk.new wr.drew 33 (ndC zeroN)) b6; have hq := (hq.alloc hq.size (.cells #[.int .i64 0, .int .i64 0, .int .i64 0, .string ⟨#[]⟩, .int .i64 0, .slice none 0 0] 33)).trans (b6.mono (hq.alloc hq.size (.cells #[.int .i64 0, .int .i64 0, .int .i64 0, .string ⟨#[]⟩, .int .i64 0, .slice none 0 0] 33)).size); obtain ⟨⟨x0, x1, x2, x3, x4, x5⟩, f0, f1, f2, f3, f4, f5⟩ := hbx.six; simp only [zeroN] at x0 x1 x2 x3 x4 x5; obtain ⟨W', hW', hbW, hgW⟩ := hbx.put6 ⟨gi, gk, gl, gd, gp, .slice ag ng cg, gn⟩; dsimp only at hW'))
        all_goals (go_wp2_with fail; go_meet)
        all_goals first
          | exact ⟨_, rfl, hq.alloc hq.size _, Blk.new w6 33 (ndC ⟨gi, gk, gl, gd, gp, .slice ag ng cg, gn⟩), hq.size⟩
          | exact ⟨_, rfl, below_grown hq hgW (Nat.le_refl _) (Nat.le_refl _), hbW, Nat.le_refl _⟩
      case rest =>
        obtain ⟨BX, rfl, hbc, HX⟩ := hcut
        have hbt := hbw.trans (hbc.mono hbw.size)
        have HB2 := Lib.hid (HB.out.next hbc)
        have HO2 := Lib.hid (own_keep HO.out hbc)
        obtain ⟨ag2, cg2, hgs, hE1, hE2, hE3⟩ := HEG.out
        simp only [Value.slice.injEq] at hgs
        obtain ⟨rfl, rfl, rfl⟩ := hgs
        unfold maxLen at hE2
        have HE := Lib.hid hE3
        have hsz := hbt.size
        have HXB := Lib.hid (show w.heap.size + 1 ≤ wr.heap.size from hBlt)
        clear hdr hdr2 hGc HMK hG1 hG2 hG3 hq hE3 HB HO hBlt d0 p0 p1 p2 p3
        have hlt1 : 1 ≤ S0.length := by omega
        go_wp2
        go_loopw [3, 7] (fun s3 s7 wr => ∃ m : Nat, m ≤ gn.length ∧ s7 = .int .i64 m ∧ Below w.heap.size w wr ∧ Aside (Blk wr w.heap.size 24 (fsC mi mb nx (.slice a l.length ca))) ∧ Aside (Blk wr BX 33 (ndC ⟨gi, gk, gl, gd, gp, .slice ag gn.length cg, gn⟩)) ∧ Aside (wr.ownsRow (w.heap.size + 1) 3 1 s3 (seeB S0 (gn.take m)).length (intsV (seeB S0 (gn.take m))))) (fun _ s7 _ => gn.length - (intOf s7).toNat)
        case atStart => exact ⟨0, Nat.zero_le _, rfl, hbt, HB2.out, HX.out.1, by (show World.ownsRow _ _ _ _ _ _ _); rw [List.take_zero]; exact HO2.out⟩
        case round =>
          clear hbt HB2 HX HO2 hsz hbw hbc hgb HXB
          obtain ⟨m, hm2, rfl, hb2, F2, X2, O2⟩ := hrel
          obtain ⟨a3, c4, rfl⟩ := own_slice O2.out
          have hSb := HSB2.out m
          have hS1 : 1 ≤ (seeB S0 (gn.take m)).length := Nat.le_trans hlt1 (see_len _ _)
          obtain ⟨g2, rfl⟩ : ∃ g, a3 = some ⟨g, 0, none⟩ := by
            rcases own_cases O2.out with ⟨_, h0, _⟩ | ⟨g, cap, h, _⟩
            · omega
            · simp only [Value.slice.injEq] at h; exact ⟨g, h.1⟩
          have x5 := X2.out.six.1.2.2.2.2.2
          dsimp only at x5
          by_cases hmlt : m < gn.length
          · obtain ⟨be, oe, rfl, hbe, hce⟩ := HE.out (by omega)
            have d1 := (hb2.cell (p := ⟨be, oe + m * 2 + 1, none⟩) hbe).trans (hce m hmlt).2
            clear hce
            have hsn := see_next S0 hmlt
            have hSb2 := HSB2.out (m + 1)
            generalize gn[m].2 = z2 at *
            generalize hS : seeB S0 (gn.take m) = S at *
            have HS := Lib.hid hS
            have HSN := Lib.hid hsn
            clear hS hsn hSb2
            have hne := own_ne O2.out X2.out (by decide)
            have m0 : (0 : Int) ≤ (m : Int) := by omega
            have m1 : (m : Int) < (gn.length : Int) := by omega
            have hg2 := (O2.out.lt g2 rfl).1
            have hbe2 : be < wr.heap.size := Nat.lt_of_lt_of_le hbe hb2.size
            have D1 := Lib.hid d1
            clear d1
            go_wp2
            go_loopw [8, 9] (fun s8 s9 wq => ∃ j : Nat, j ≤ S.length ∧ s9 = .int .i64 j ∧ s8 = .bool ((S.take j).contains z2) ∧ Below wr.heap.size wr wq) (fun _ s9 _ => S.length - (intOf s9).toNat)
            case atStart => exact ⟨0, Nat.zero_le _, rfl, rfl, Below.refl _ _⟩
            case round =>
              obtain ⟨j, hj, rfl, rfl, hbq⟩ := hrel
              clear x5
              have X3 := X2.out.next hbq
              have O3 := own_keep O2.out hbq
              have x5 := X3.six.1.2.2.2.2.2
              dsimp only at x5
              have d2 := (hbq.cell (p := ⟨be, oe + m * 2 + 1, none⟩) hbe2).trans D1.out
              have HX3 := Lib.hid X3
              have HO3 := Lib.hid O3
              clear X3 O3
              by_cases hjlt : j < S.length
              · have e1 := own_int HO3.out rfl hjlt
                have hnx := hasT_next (z := z2) hjlt
                generalize S[j] = u at *
                have j0 : (0 : Int) ≤ (j : Int) := by omega
                have j1 : (j : Int) < (S.length : Int) := by omega
                cases ho : (S.take j).contains z2
                · cases he : (u == z2)
                  · rw [ho, he] at hnx
                    have HN := Lib.hid hnx
                    clear hnx ho
                    go_wp2
                    go_quiet (fail)
                    go_wp2
                    go_roundw
                    case rel => exact ⟨j + 1, by omega, by go_num, by rw [HN.out]; rfl, below_drewN hbq _⟩
                    case measure => simp [intOf]; omega
                  · rw [ho, he] at hnx
                    have HN := Lib.hid hnx
                    clear hnx ho
                    go_wp2
                    go_quiet (fail)
                    go_wp2
                    go_roundw
                    case rel => exact ⟨j + 1, by omega, by go_num, by rw [HN.out]; rfl, below_drewN hbq _⟩
                    case measure => simp [intOf]; omega
                · rw [ho] at hnx
                  have HN := Lib.hid hnx
                  clear hnx ho
                  go_wp2
                  go_quiet (fail)
                  go_wp2
                  go_roundw
                  case rel => exact ⟨j + 1, by omega, by go_num, by rw [HN.out]; rfl, below_drewN hbq _⟩
                  case measure => simp [intOf]; omega
              · obtain rfl : j = S.length := by omega
                rw [List.take_length]
                have hbw3 := hb2.trans (hbq.mono hb2.size)
                have F3 := Lib.hid (F2.out.next hbq)
                cases ho : S.contains z2
                · have hsn := HSN.out
                  rw [ho, if_neg (by simp)] at hsn
                  have HN := Lib.hid hsn
                  have hsz3 : w.heap.size + 1 ≤ wr.heap.size := F3.out.lt
                  clear hsn ho
                  go_wp2_with (at_builtin; refine wpList_append_near rfl (.tmp 55) (.tmp 62) 71 3 rfl Try.underlying71 hi hz0 hz1 hz2 rfl (by decide) (by decide) (w.heap.size + 1) #[.int .i64 z2] 1 rfl rfl HO3.out rfl (by simp [Value.oneCell']) (by omega) hsz3 ?_; intro v5 w5 hown5 hg5)
                  replace hg5 : World.grownBy _ w5 (some g2) := hg5
                  have hBl := below_grown (hbw3.alloc hbw3.size (.cells #[.int .i64 z2] 3)) hg5 (Nat.le_refl _) (by omega)
                  have F5 := (F3.out.alloc (.cells #[.int .i64 z2] 3)).kept hg5 (by simp; omega)
                  have X5 := (HX3.out.alloc (.cells #[.int .i64 z2] 3)).kept hg5 (by simpa using fun h => hne h.symm)
                  have O5 : Hid (w5.ownsRow (w.heap.size + 1) 3 1 v5 (seeB S0 (gn.take (m + 1))).length (intsV (seeB S0 (gn.take (m + 1))))) := by
                    (show World.ownsRow _ _ _ _ _ _ _); rw [HN.out, List.length_append]; simpa [intsV] using hown5
                  clear hown5 hg5
                  go_roundw
                  case rel => exact ⟨m + 1, by omega, by go_num, hBl, F5, X5, O5.out⟩
                  case measure => simp [intOf]; omega
                · have hsn := HSN.out
                  rw [ho, if_pos rfl] at hsn
                  have HN := Lib.hid hsn
                  clear hsn ho
                  go_wp2
                  go_roundw
                  case rel => exact ⟨m + 1, by omega, by go_num, hbw3, F3.out, HX3.out, by (show World.ownsRow _ _ _ _ _ _ _); rw [HN.out]; exact HO3.out⟩
                  case measure => simp [intOf]; omega
          · obtain rfl : m = gn.length := by omega
            rw [List.take_length] at O2 hS1 ⊢
            have hgrow : k + 1 ≤ (bfsN l (k + 1)).length := by rw [HNX.out]; exact Nat.le_trans (by omega) (see_len _ _)
            have HGR := Lib.hid hgrow
            clear hgrow
            go_wp2
            go_roundw
            case rel => exact ⟨k + 1, by go_num, HGR.out, hb2, F2.out, by (show World.ownsRow _ _ _ _ _ _ _); rw [HNX.out]; exact O2.out⟩
            case measure => simp [intOf]; omega
    · have HF := Lib.hid (HFE.out k (by omega) (by omega))
      go_wp2
      go_ret
      exact ⟨ret_bool (by rw [HF.out, cast_beq]), hbw⟩
end Go.Proofs.Ytpeghnhaekebdaa

/- Walks: the document's Check and Ok. -/
set_option linter.unusedVariables false
set_option linter.unusedSimpArgs false
namespace Go.Proofs.Ytpeghnhaekebdaa
open Go.RowKit

theorem check1 {mi mb nx : Int} {l : List Nd} (h1 : firstB mi mb nx l = false) : checkN mi mb nx l = 1 := by unfold checkN; rw [if_pos h1]
theorem check2 {mi mb nx : Int} {l : List Nd} (h1 : firstB mi mb nx l = true) (h2 : secondB l = false) : checkN mi mb nx l = 2 := by unfold checkN; rw [if_neg (by simp [h1]), if_pos h2]
theorem check3 {mi mb nx : Int} {l : List Nd} (h1 : firstB mi mb nx l = true) (h2 : secondB l = true) (h3 : thirdB l = false) : checkN mi mb nx l = 3 := by unfold checkN; rw [if_neg (by simp [h1]), if_neg (by simp [h2]), if_pos h3]
theorem check4 {mi mb nx : Int} {l : List Nd} (h1 : firstB mi mb nx l = true) (h2 : secondB l = true) (h3 : thirdB l = true) (h4 : fourthB l = false) : checkN mi mb nx l = 4 := by unfold checkN; rw [if_neg (by simp [h1]), if_neg (by simp [h2]), if_neg (by simp [h3]), if_pos h4]
theorem check5 {mi mb nx : Int} {l : List Nd} (h1 : firstB mi mb nx l = true) (h2 : secondB l = true) (h3 : thirdB l = true) (h4 : fourthB l = true) (h5 : fifthB l = false) : checkN mi mb nx l = 5 := by unfold checkN; rw [if_neg (by simp [h1]), if_neg (by simp [h2]), if_neg (by simp [h3]), if_neg (by simp [h4]), if_pos h5]
theorem check6 {mi mb nx : Int} {l : List Nd} (h1 : firstB mi mb nx l = true) (h2 : secondB l = true) (h3 : thirdB l = true) (h4 : fourthB l = true) (h5 : fifthB l = true) (h6 : fitsB mi mb l 0 0 = false) : checkN mi mb nx l = 6 := by unfold checkN; rw [if_neg (by simp [h1]), if_neg (by simp [h2]), if_neg (by simp [h3]), if_neg (by simp [h4]), if_neg (by simp [h5]), if_pos h6]
theorem check0 {mi mb nx : Int} {l : List Nd} (h1 : firstB mi mb nx l = true) (h2 : secondB l = true) (h3 : thirdB l = true) (h4 : fourthB l = true) (h5 : fifthB l = true) (h6 : fitsB mi mb l 0 0 = true) : checkN mi mb nx l = 0 := by unfold checkN; rw [if_neg (by simp [h1]), if_neg (by simp [h2]), if_neg (by simp [h3]), if_neg (by simp [h4]), if_neg (by simp [h5]), if_neg (by simp [h6])]

set_option maxHeartbeats 4000000 in
theorem refCheck_any (mi mb nx : Int) (l : List Nd) (v : Value) (w : World) (hv : Nds w v l) (hl : l.length ≤ 1000000) (hsh : ∀ x ∈ l, shortP 1000000 x.ents ∧ x.data.length ≤ 281474976710656) (hp : (pairsN l).length ≤ 1000000000000) (hb : bytesN l ≤ 1099511627776) :
    Calls Try.prog 17 #[.agg (fsC mi mb nx v)] w fun e w' => e = .returned (.int .i64 (checkN mi mb nx l)) ∧ Below w.heap.size w w' := by
  obtain ⟨a, ca, rfl⟩ := nds_slice hv
  have bF := Blk.new w 24 (fsC mi mb nx (.slice a l.length ca))
  have hB := alloc_below w (.cells (fsC mi mb nx (.slice a l.length ca)) 24)
  have nV := hv.below hB
  clear hv
  cases h1 : firstB mi mb nx l
  · have HN := Lib.hid (check1 h1)
    go_enter Try.func17, Try.ntmps17
    (obtain ⟨⟨p0, p1, p2, p3⟩, _⟩ := bF.four); (go_wp2_with fail; refine (refFirst_any mi mb nx l _ _ nV hl).mono ?_; rintro e wz ⟨rfl, bz⟩); ((replace bF := bF.next bz; replace nV := nV.below bz; replace hB := hB.trans (bz.mono hB.size))); rw [h1]; clear p0 p1 p2 p3 bz
    go_wp2; go_ret; exact ⟨by rw [HN.out]; rfl, hB⟩
  cases h2 : secondB l
  · have HN := Lib.hid (check2 h1 h2)
    go_enter Try.func17, Try.ntmps17
    (obtain ⟨⟨p0, p1, p2, p3⟩, _⟩ := bF.four); (go_wp2_with fail; refine (refFirst_any mi mb nx l _ _ nV hl).mono ?_; rintro e wz ⟨rfl, bz⟩); ((replace bF := bF.next bz; replace nV := nV.below bz; replace hB := hB.trans (bz.mono hB.size))); rw [h1]; clear p0 p1 p2 p3 bz
    (obtain ⟨⟨p0, p1, p2, p3⟩, _⟩ := bF.four); (go_wp2_with fail; refine (refSecond_any mi mb nx l _ _ nV hl hsh).mono ?_; rintro e wz ⟨rfl, bz⟩); ((replace bF := bF.next bz; replace nV := nV.below bz; replace hB := hB.trans (bz.mono hB.size))); rw [h2]; clear p0 p1 p2 p3 bz
    go_wp2; go_ret; exact ⟨by rw [HN.out]; rfl, hB⟩
  cases h3 : thirdB l
  · have HN := Lib.hid (check3 h1 h2 h3)
    go_enter Try.func17, Try.ntmps17
    (obtain ⟨⟨p0, p1, p2, p3⟩, _⟩ := bF.four); (go_wp2_with fail; refine (refFirst_any mi mb nx l _ _ nV hl).mono ?_; rintro e wz ⟨rfl, bz⟩); ((replace bF := bF.next bz; replace nV := nV.below bz; replace hB := hB.trans (bz.mono hB.size))); rw [h1]; clear p0 p1 p2 p3 bz
    (obtain ⟨⟨p0, p1, p2, p3⟩, _⟩ := bF.four); (go_wp2_with fail; refine (refSecond_any mi mb nx l _ _ nV hl hsh).mono ?_; rintro e wz ⟨rfl, bz⟩); ((replace bF := bF.next bz; replace nV := nV.below bz; replace hB := hB.trans (bz.mono hB.size))); rw [h2]; clear p0 p1 p2 p3 bz
    (obtain ⟨⟨p0, p1, p2, p3⟩, _⟩ := bF.four); (go_wp2_with fail; refine (refThird_any mi mb nx l _ _ nV hl).mono ?_; rintro e wz ⟨rfl, bz⟩); ((replace bF := bF.next bz; replace nV := nV.below bz; replace hB := hB.trans (bz.mono hB.size))); rw [h3]; clear p0 p1 p2 p3 bz
    go_wp2; go_ret; exact ⟨by rw [HN.out]; rfl, hB⟩
  cases h4 : fourthB l
  · have HN := Lib.hid (check4 h1 h2 h3 h4)
    go_enter Try.func17, Try.ntmps17
    (obtain ⟨⟨p0, p1, p2, p3⟩, _⟩ := bF.four); (go_wp2_with fail; refine (refFirst_any mi mb nx l _ _ nV hl).mono ?_; rintro e wz ⟨rfl, bz⟩); ((replace bF := bF.next bz; replace nV := nV.below bz; replace hB := hB.trans (bz.mono hB.size))); rw [h1]; clear p0 p1 p2 p3 bz
    (obtain ⟨⟨p0, p1, p2, p3⟩, _⟩ := bF.four); (go_wp2_with fail; refine (refSecond_any mi mb nx l _ _ nV hl hsh).mono ?_; rintro e wz ⟨rfl, bz⟩); ((replace bF := bF.next bz; replace nV := nV.below bz; replace hB := hB.trans (bz.mono hB.size))); rw [h2]; clear p0 p1 p2 p3 bz
    (obtain ⟨⟨p0, p1, p2, p3⟩, _⟩ := bF.four); (go_wp2_with fail; refine (refThird_any mi mb nx l _ _ nV hl).mono ?_; rintro e wz ⟨rfl, bz⟩); ((replace bF := bF.next bz; replace nV := nV.below bz; replace hB := hB.trans (bz.mono hB.size))); rw [h3]; clear p0 p1 p2 p3 bz
    (obtain ⟨⟨p0, p1, p2, p3⟩, _⟩ := bF.four); (go_wp2_with fail; refine (refFourth_any mi mb nx l _ _ nV hl hp).mono ?_; rintro e wz ⟨rfl, bz⟩); ((replace bF := bF.next bz; replace nV := nV.below bz; replace hB := hB.trans (bz.mono hB.size))); rw [h4]; clear p0 p1 p2 p3 bz
    go_wp2; go_ret; exact ⟨by rw [HN.out]; rfl, hB⟩
  cases h5 : fifthB l
  · have HN := Lib.hid (check5 h1 h2 h3 h4 h5)
    go_enter Try.func17, Try.ntmps17
    (obtain ⟨⟨p0, p1, p2, p3⟩, _⟩ := bF.four); (go_wp2_with fail; refine (refFirst_any mi mb nx l _ _ nV hl).mono ?_; rintro e wz ⟨rfl, bz⟩); ((replace bF := bF.next bz; replace nV := nV.below bz; replace hB := hB.trans (bz.mono hB.size))); rw [h1]; clear p0 p1 p2 p3 bz
    (obtain ⟨⟨p0, p1, p2, p3⟩, _⟩ := bF.four); (go_wp2_with fail; refine (refSecond_any mi mb nx l _ _ nV hl hsh).mono ?_; rintro e wz ⟨rfl, bz⟩); ((replace bF := bF.next bz; replace nV := nV.below bz; replace hB := hB.trans (bz.mono hB.size))); rw [h2]; clear p0 p1 p2 p3 bz
    (obtain ⟨⟨p0, p1, p2, p3⟩, _⟩ := bF.four); (go_wp2_with fail; refine (refThird_any mi mb nx l _ _ nV hl).mono ?_; rintro e wz ⟨rfl, bz⟩); ((replace bF := bF.next bz; replace nV := nV.below bz; replace hB := hB.trans (bz.mono hB.size))); rw [h3]; clear p0 p1 p2 p3 bz
    (obtain ⟨⟨p0, p1, p2, p3⟩, _⟩ := bF.four); (go_wp2_with fail; refine (refFourth_any mi mb nx l _ _ nV hl hp).mono ?_; rintro e wz ⟨rfl, bz⟩); ((replace bF := bF.next bz; replace nV := nV.below bz; replace hB := hB.trans (bz.mono hB.size))); rw [h4]; clear p0 p1 p2 p3 bz
    (obtain ⟨⟨p0, p1, p2, p3⟩, _⟩ := bF.four); (go_wp2_with fail; refine (refFifth_any mi mb nx l _ _ nV hl h3 (first_has h1)).mono ?_; rintro e wz ⟨rfl, bz⟩); ((replace bF := bF.next bz; replace nV := nV.below bz; replace hB := hB.trans (bz.mono hB.size))); rw [h5]; clear p0 p1 p2 p3 bz
    go_wp2; go_ret; exact ⟨by rw [HN.out]; rfl, hB⟩
  cases h6 : fitsB mi mb l 0 0
  · have HN := Lib.hid (check6 h1 h2 h3 h4 h5 h6)
    go_enter Try.func17, Try.ntmps17
    (obtain ⟨⟨p0, p1, p2, p3⟩, _⟩ := bF.four); (go_wp2_with fail; refine (refFirst_any mi mb nx l _ _ nV hl).mono ?_; rintro e wz ⟨rfl, bz⟩); ((replace bF := bF.next bz; replace nV := nV.below bz; replace hB := hB.trans (bz.mono hB.size))); rw [h1]; clear p0 p1 p2 p3 bz
    (obtain ⟨⟨p0, p1, p2, p3⟩, _⟩ := bF.four); (go_wp2_with fail; refine (refSecond_any mi mb nx l _ _ nV hl hsh).mono ?_; rintro e wz ⟨rfl, bz⟩); ((replace bF := bF.next bz; replace nV := nV.below bz; replace hB := hB.trans (bz.mono hB.size))); rw [h2]; clear p0 p1 p2 p3 bz
    (obtain ⟨⟨p0, p1, p2, p3⟩, _⟩ := bF.four); (go_wp2_with fail; refine (refThird_any mi mb nx l _ _ nV hl).mono ?_; rintro e wz ⟨rfl, bz⟩); ((replace bF := bF.next bz; replace nV := nV.below bz; replace hB := hB.trans (bz.mono hB.size))); rw [h3]; clear p0 p1 p2 p3 bz
    (obtain ⟨⟨p0, p1, p2, p3⟩, _⟩ := bF.four); (go_wp2_with fail; refine (refFourth_any mi mb nx l _ _ nV hl hp).mono ?_; rintro e wz ⟨rfl, bz⟩); ((replace bF := bF.next bz; replace nV := nV.below bz; replace hB := hB.trans (bz.mono hB.size))); rw [h4]; clear p0 p1 p2 p3 bz
    (obtain ⟨⟨p0, p1, p2, p3⟩, _⟩ := bF.four); (go_wp2_with fail; refine (refFifth_any mi mb nx l _ _ nV hl h3 (first_has h1)).mono ?_; rintro e wz ⟨rfl, bz⟩); ((replace bF := bF.next bz; replace nV := nV.below bz; replace hB := hB.trans (bz.mono hB.size))); rw [h5]; clear p0 p1 p2 p3 bz
    (obtain ⟨⟨p0, p1, p2, p3⟩, _⟩ := bF.four); (go_wp2_with fail; refine (refFits_any mi mb nx 0 0 l _ _ nV hl hb (by decide) (by decide)).mono ?_; rintro e wz ⟨rfl, bz⟩); ((replace bF := bF.next bz; replace nV := nV.below bz; replace hB := hB.trans (bz.mono hB.size))); rw [h6]; clear p0 p1 p2 p3 bz
    go_wp2; go_ret; exact ⟨by rw [HN.out]; rfl, hB⟩
  · have HN := Lib.hid (check0 h1 h2 h3 h4 h5 h6)
    go_enter Try.func17, Try.ntmps17
    (obtain ⟨⟨p0, p1, p2, p3⟩, _⟩ := bF.four); (go_wp2_with fail; refine (refFirst_any mi mb nx l _ _ nV hl).mono ?_; rintro e wz ⟨rfl, bz⟩); ((replace bF := bF.next bz; replace nV := nV.below bz; replace hB := hB.trans (bz.mono hB.size))); rw [h1]; clear p0 p1 p2 p3 bz
    (obtain ⟨⟨p0, p1, p2, p3⟩, _⟩ := bF.four); (go_wp2_with fail; refine (refSecond_any mi mb nx l _ _ nV hl hsh).mono ?_; rintro e wz ⟨rfl, bz⟩); ((replace bF := bF.next bz; replace nV := nV.below bz; replace hB := hB.trans (bz.mono hB.size))); rw [h2]; clear p0 p1 p2 p3 bz
    (obtain ⟨⟨p0, p1, p2, p3⟩, _⟩ := bF.four); (go_wp2_with fail; refine (refThird_any mi mb nx l _ _ nV hl).mono ?_; rintro e wz ⟨rfl, bz⟩); ((replace bF := bF.next bz; replace nV := nV.below bz; replace hB := hB.trans (bz.mono hB.size))); rw [h3]; clear p0 p1 p2 p3 bz
    (obtain ⟨⟨p0, p1, p2, p3⟩, _⟩ := bF.four); (go_wp2_with fail; refine (refFourth_any mi mb nx l _ _ nV hl hp).mono ?_; rintro e wz ⟨rfl, bz⟩); ((replace bF := bF.next bz; replace nV := nV.below bz; replace hB := hB.trans (bz.mono hB.size))); rw [h4]; clear p0 p1 p2 p3 bz
    (obtain ⟨⟨p0, p1, p2, p3⟩, _⟩ := bF.four); (go_wp2_with fail; refine (refFifth_any mi mb nx l _ _ nV hl h3 (first_has h1)).mono ?_; rintro e wz ⟨rfl, bz⟩); ((replace bF := bF.next bz; replace nV := nV.below bz; replace hB := hB.trans (bz.mono hB.size))); rw [h5]; clear p0 p1 p2 p3 bz
    (obtain ⟨⟨p0, p1, p2, p3⟩, _⟩ := bF.four); (go_wp2_with fail; refine (refFits_any mi mb nx 0 0 l _ _ nV hl hb (by decide) (by decide)).mono ?_; rintro e wz ⟨rfl, bz⟩); ((replace bF := bF.next bz; replace nV := nV.below bz; replace hB := hB.trans (bz.mono hB.size))); rw [h6]; clear p0 p1 p2 p3 bz
    go_wp2; go_ret; exact ⟨by rw [HN.out]; rfl, hB⟩

theorem few_ok {l : List Nd} (h : fewN l = true) : l.length ≤ 1000000 ∧ (∀ x ∈ l, shortP 1000000 x.ents ∧ x.data.length ≤ 281474976710656) ∧ (pairsN l).length ≤ 1000000000000 ∧ bytesN l ≤ 1099511627776 := by
  have hsm := fewN_small h
  unfold fewN at h
  rw [Bool.and_eq_true, List.all_eq_true] at h
  have hx : ∀ x ∈ l, x.ents.length ≤ 40 ∧ shortP 300 x.ents := by
    intro x hx
    have := h.2 x hx
    unfold fewX at this
    simp only [Bool.and_eq_true, decide_eq_true_eq, List.all_eq_true] at this
    exact ⟨this.1.2, this.2⟩
  have h1 := pairs_len l (m := 40) (fun x hm => (hx x hm).1)
  have h2 := bytesN_few hsm.2
  have h3 : l.length * 40 ≤ 40 * 40 := Nat.mul_le_mul_right _ hsm.1
  have h4 : l.length * 5000 ≤ 40 * 5000 := Nat.mul_le_mul_right _ hsm.1
  refine ⟨by omega, fun x hm => ⟨fun e he => Nat.le_trans ((hx x hm).2 e he) (by decide), Nat.le_trans (hsm.2 x hm) (by decide)⟩, by omega, by omega⟩

set_option maxHeartbeats 4000000 in
theorem refOk_any (mi mb nx : Int) (l : List Nd) (v : Value) (w : World) (hv : Nds w v l) :
    Calls Try.prog 7 #[.agg (fsC mi mb nx v)] w fun e w' => e = .returned (.bool (okB mi mb nx l)) ∧ Below w.heap.size w w' := by
  obtain ⟨a, ca, rfl⟩ := nds_slice hv
  have bF := Blk.new w 24 (fsC mi mb nx (.slice a l.length ca))
  have hB := alloc_below w (.cells (fsC mi mb nx (.slice a l.length ca)) 24)
  have nV := hv.below hB
  clear hv
  have HK : Hid (okB mi mb nx l = (fewN l && decide (checkN mi mb nx l = 0))) := rfl
  cases hf : fewN l
  · go_enter Try.func7, Try.ntmps7
    obtain ⟨⟨p0, p1, p2, p3⟩, _⟩ := bF.four
    go_wp2_with fail; refine (fewT_any mi mb nx l _ _ nV).mono ?_; rintro e w2 ⟨rfl, b2⟩
    (replace bF := bF.next b2; replace nV := nV.below b2; replace hB := hB.trans (b2.mono hB.size))
    rw [hf]
    clear p0 p1 p2 p3
    go_wp2
    go_ret
    exact ⟨ret_bool (by rw [HK.out, hf]; rfl), hB⟩
  obtain ⟨q1, q2, q3, q4⟩ := few_ok hf
  go_enter Try.func7, Try.ntmps7
  obtain ⟨⟨p0, p1, p2, p3⟩, _⟩ := bF.four
  go_wp2_with fail; refine (fewT_any mi mb nx l _ _ nV).mono ?_; rintro e w2 ⟨rfl, b2⟩
  (replace bF := bF.next b2; replace nV := nV.below b2; replace hB := hB.trans (b2.mono hB.size))
  rw [hf]
  clear p0 p1 p2 p3
  obtain ⟨⟨p0, p1, p2, p3⟩, _⟩ := bF.four
  go_wp2_with fail; refine (refCheck_any mi mb nx l _ _ nV q1 q2 q3 q4).mono ?_; rintro e w3 ⟨rfl, b3⟩
  (replace bF := bF.next b3; replace nV := nV.below b3; replace hB := hB.trans (b3.mono hB.size))
  generalize hc : checkN mi mb nx l = c at *
  clear p0 p1 p2 p3
  go_wp2
  go_ret
  exact ⟨ret_bool (by rw [HK.out, hf, Bool.true_and, Bool.eq_iff_iff]; simp), hB⟩
end Go.Proofs.Ytpeghnhaekebdaa
