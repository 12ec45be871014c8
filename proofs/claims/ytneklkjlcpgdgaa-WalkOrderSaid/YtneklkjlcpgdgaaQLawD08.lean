/- WalkOrder: of every sound file system the program's walk comes to Root and to each entry once, by plain paths of which no two are alike, each behind the directory whose entry its last name is. Of file systems that are not sound, or too large for the statement, it asks only its fixed answers. -/
import Derived.Test.YtneklkjlcpgdgaaQWalkF07
import Derived.Test.YtneklkjlcpgdgaaQAwakeB08
import Derived.Test.YtneklkjlcpgdgaaQLawBase05
import Derived.Test.YtneklkjlcpgdgaaQWalkB08
import Derived.Test.YtneklkjlcpgdgaaQ
import Derived.Test.YtneklkjlcpgdgaaQPlain03
import Derived.Laws.StructEq
namespace Go.Proofs.Ytneklkjlcpgdgaa
open Go.ChangeShapes Go.WideShapes Go.ChangeAt Go.RowKit
open Go.ChangeMaps (open_string shut_string)
set_option linter.unusedVariables false

theorem strs_cut {w : World} {base : Nat} {e : TypeId} {g n cap : Nat} {l : List (List UInt8)} (h : w.ownsRow base e 1 (.slice (some ⟨g, 0, none⟩) n cap) n (strsV l)) (k : Nat) (hk : k ≤ l.length) (c : Nat) : Strs w (.slice (some ⟨g, 0, none⟩) k c) (l.take k) := by
  obtain ⟨a, cap2, e1, e2, e3⟩ := own_strs h
  simp only [Value.slice.injEq] at e1
  obtain ⟨rfl, rfl, rfl⟩ := e1
  have hlen : (l.take k).length = k := by simp; omega
  refine ⟨some ⟨g, 0, none⟩, c, by rw [hlen], by rw [hlen]; omega, fun hl => ?_⟩
  rw [hlen] at hl
  obtain ⟨b, off, e4, e5, e6⟩ := e3 (by omega)
  refine ⟨b, off, e4, e5, fun i hi => ?_⟩
  rw [hlen] at hi
  rw [List.getElem_take]
  exact e6 i (by omega)
theorem tailB_ge (ns : List (List UInt8)) : ns.length ≤ (tailB ns).length := by
  induction ns with
  | nil => exact Nat.zero_le _
  | cons n r ih => simp [tailB]; omega
theorem anyT_next {α : Type} {l : List α} {p : α → Bool} {k : Nat} (h : k < l.length) : (l.take (k + 1)).any p = ((l.take k).any p || p l[k]) := by
  rw [List.take_succ_eq_append_getElem h, List.any_append]; simp
def sameE (nm : List UInt8) (z : Int) (e : Ent) : Bool := e.1 == nm && e.2 == z
/-- What the loops need of the walk. -/
structure Ord (l : List Nd) (L : List Ent) : Prop where
  len : L.length = 1 + entsN l
  few : L.length ≤ 1601
  head : ∃ r, L = ([47], 1) :: r
  short : ∀ q ∈ L, q.1.length ≤ 100000
  at_ : ∀ i (h0 : 0 < i) (h : i < L.length), ∃ pn nm dir k, ∃ hk : k < i, (pn ++ [nm]).all mayB = true ∧ L[i].1 = joinB (pn ++ [nm]) ∧ L[k]'(by omega) = (joinB pn, dir) ∧ (nm, L[i].2) ∈ (getN l dir).ents
  ne : ∀ i k (hk : k < i) (h : i < L.length), (L[k]'(by omega)).1 ≠ L[i].1
theorem ord_of {mi mb nx : Int} {l : List Nd} (h : okB mi mb nx l = true) : Ord l (listN l) := by
  have t := tree_of h
  obtain ⟨f1, f2, f3⟩ := few_ents (ok_parts h).1
  refine ⟨list_exact t, by rw [list_exact t]; omega, list_head t, ?_, fun i h0 h => order_at t h0 h, fun i k hk h => order_ne t hk h⟩
  intro q hq
  have := below_paths f3 (l.length + 1) 1 [47] q hq
  simp at this
  omega

set_option maxHeartbeats 8000000 in
set_option maxRecDepth 100000 in
theorem lawOrder (mi mb nx : Int) (l : List Nd) (v : Value) (w : World) (hv : Nds w v l) :
    Calls Try.prog 6 #[.agg (fsC mi mb nx v)] w fun e w' => e = .returned (.bool true) ∧ Below w.heap.size w w' := by
  obtain ⟨a, ca, rfl⟩ := nds_slice hv
  have bF := Blk.new w 24 (fsC mi mb nx (.slice a l.length ca))
  have hB := alloc_below w (.cells (fsC mi mb nx (.slice a l.length ca)) 24)
  have nV := hv.below hB
  have HV := Lib.hid hv
  clear hv
  cases hf : okB mi mb nx l
  · go_enter Try.func6, Try.ntmps6
    go_wp2_with fail; refine (awake08 _).mono ?_; rintro e w1 ⟨rfl, b1⟩
    (replace bF := bF.next b1; replace nV := nV.below b1; replace hB := hB.trans (b1.mono hB.size))
    obtain ⟨⟨p0, p1, p2, p3⟩, _⟩ := bF.four
    go_wp2_with fail; refine (refOk_any mi mb nx l _ _ nV).mono ?_; rintro e w2 ⟨rfl, b2⟩
    (replace bF := bF.next b2; replace nV := nV.below b2; replace hB := hB.trans (b2.mono hB.size))
    rw [hf]
    go_wp2_with fail; refine (awake08 _).mono ?_; rintro e w9 ⟨rfl, b9⟩
    go_wp2
    go_ret
    exact ⟨rfl, hB.trans (b9.mono hB.size)⟩
  have ho := ord_of hf
  obtain ⟨f1, f2, f3⟩ := few_ents (ok_parts hf).1
  have hLl : (listN l).length ≤ 1000000 := by have := ho.few; omega
  have hLc := fun w' (h : Nds w' (.slice a l.length ca) l) => ListW_any mi mb nx l (tree_of hf) f3 (by omega) _ w' h hLl
  generalize listN l = L at *
  have HO := Lib.hid ho
  have HLEN := Lib.hid ho.len
  have hfew := ho.few
  have hLp : 1 ≤ L.length := by have := ho.len; omega
  clear ho hLl
  go_enter Try.func6, Try.ntmps6
  go_wp2_with fail; refine (awake08 _).mono ?_; rintro e w1 ⟨rfl, b1⟩
  (replace bF := bF.next b1; replace nV := nV.below b1; replace hB := hB.trans (b1.mono hB.size))
  obtain ⟨⟨p0, p1, p2, p3⟩, _⟩ := bF.four
  go_wp2_with fail; refine (refOk_any mi mb nx l _ _ nV).mono ?_; rintro e w2 ⟨rfl, b2⟩
  (replace bF := bF.next b2; replace nV := nV.below b2; replace hB := hB.trans (b2.mono hB.size))
  rw [hf]
  clear p0 p1 p2 p3
  obtain ⟨⟨p0, p1, p2, p3⟩, _⟩ := bF.four
  have hLc2 := hLc _ nV
  go_wp2_with fail
  refine hLc2.mono ?_
  rintro e w3 ⟨y, rfl, hown, b3⟩
  (replace bF := bF.next b3; replace nV := nV.below b3; replace hB := hB.trans (b3.mono hB.size))
  have hE := own_ents hown
  obtain ⟨ay, cy, rfl, hE1, hE2, hE3⟩ := id hE
  unfold maxLen at hE2
  obtain ⟨b, o, rfl, hb, hcl⟩ := hE3 (by omega)
  have HCL := Lib.hid hcl
  have HD := Lib.hid hB
  obtain ⟨aa, cc, hyy, _, _, _, _, HA0⟩ := nV
  simp only [Value.slice.injEq] at hyy
  obtain ⟨rfl, _, rfl⟩ := hyy
  have HA := Lib.hid HA0
  clear hLc hLc2 p0 p1 p2 p3 b1 b2 b3 hown hE hE3 HA0 hcl
  have p3 := bF.four.1.2.2.2
  go_wp2
  go_loopw [4, 5] (fun s4 s5 wr => ∃ k : Nat, k ≤ l.length ∧ s5 = .int .i64 k ∧ s4 = .int .i64 ((1 + entsN (l.take k) : Nat) : Int) ∧ wr = w3) (fun _ s5 _ => l.length - (intOf s5).toNat)
  case atStart => exact ⟨0, Nat.zero_le _, rfl, rfl, rfl⟩
  case round =>
    obtain ⟨k, hk, rfl, rfl, rfl⟩ := hrel
    by_cases hlt : k < l.length
    · obtain ⟨bl, ol, rfl, hbl, hnl⟩ := HA.out (by omega)
      obtain ⟨c0, c1, c2, c3, c4, c5⟩ := hnl k hlt
      have hnx := ents_next hlt
      have htk := ents_take l (k + 1)
      obtain ⟨ag, cg, hgs, _⟩ := HV.out.all _ (List.getElem_mem hlt)
      rw [hgs] at c5
      clear hnl
      generalize l[k] = z at *
      generalize hT : entsN (l.take (k + 1)) = T at *
      have HT := Lib.hid hT
      generalize entsN (l.take k) = U at *
      have k0 : (0 : Int) ≤ (k : Int) := by omega
      have k1 : (k : Int) < (l.length : Int) := by omega
      clear hT c0 c1 c2 c3 c4
      go_wp2
      go_roundw
      case rel => exact ⟨k + 1, by omega, by go_num, by rw [HT.out, hnx]; go_num, trivial⟩
      case measure => simp [intOf]; omega
    · obtain rfl : k = l.length := by omega
      rw [List.take_length, ← HLEN.out]
      have hc0 := HCL.out 0 (by omega)
      obtain ⟨r, hr⟩ := HO.out.head
      have e0 : L[0]'(by omega) = ([47], 1) := by simp only [hr, List.getElem_cons_zero]
      rw [e0] at hc0
      simp only [Nat.zero_mul, Nat.add_zero] at hc0
      obtain ⟨c0, c1⟩ := hc0
      have l0 : (0 : Int) < (L.length : Int) := by omega
      clear hr e0
      go_wp2
      go_loopw [6] (fun s6 wq => ∃ i : Nat, 1 ≤ i ∧ i ≤ L.length ∧ s6 = .int .i64 i ∧ Below wr.heap.size wr wq) (fun s6 _ => L.length - (intOf s6).toNat)
      case atStart => exact ⟨1, Nat.le_refl _, by omega, rfl, Below.refl _ _⟩
      case round =>
        clear c0 c1 p3
        obtain ⟨i, hi1, hi2, rfl, hbq⟩ := hrel
        have hB4 := HD.out.trans (hbq.mono HD.out.size)
        by_cases hil : i < L.length
        · obtain ⟨pn, nm, dir, k0, hk0, hmay, hpath, hkk, hent⟩ := HO.out.at_ i (by omega) hil
          have hci := HCL.out i hil
          have hsh := HO.out.short _ (List.getElem_mem hil)
          have hne := fun k hk => HO.out.ne i k hk hil
          have htl : (tailB pn).length ≤ 100000 := by
            have h1 := hsh
            rw [hpath, joinB_tail (by simp), tailB_append, List.length_append] at h1
            omega
          have hpl := Nat.le_trans (tailB_ge pn) htl
          have hki : ∀ k (hk : k < i), k ≠ k0 → (L[k]'(by omega)).1 ≠ joinB pn := by
            intro k hk hkn
            rcases Nat.lt_or_ge k k0 with h | h
            · have := HO.out.ne k0 k h (by omega)
              rw [hkk] at this; exact this
            · have := HO.out.ne k k0 (by omega) (by omega)
              rw [hkk] at this; exact fun e => this e.symm
          have hC := refPlainO_any L[i].1 wr hsh
          rw [show plainB L[i].1 = some (pn ++ [nm]) from by rw [hpath]; exact plainB_join hmay] at hC
          generalize L[i] = q at *
          obtain ⟨qp, qz⟩ := q
          dsimp only at hci hsh hne hC hent hpath
          have q0 := (hbq.cell (p := ⟨b, o + i * 2, none⟩) hb).trans hci.1
          have HQ := Lib.hid hci
          have HNE := Lib.hid hne
          have HKI := Lib.hid hki
          have HKK := Lib.hid hkk
          have HENT := Lib.hid hent
          clear hci hne hki hkk hent hpath
          have i0 : (0 : Int) ≤ (i : Int) := by omega
          have i1 : (i : Int) < (L.length : Int) := by omega
          go_wp2_with fail
          refine hC.mono ?_
          rintro e w5 ⟨vn, rfl, hn, b5⟩
          clear hC
          simp only [Option.getD_some, Option.isSome_some] at hn ⊢
          have hnn : (pn ++ [nm]).length = pn.length + 1 := by simp
          rcases own_cases hn with ⟨_, h0, _⟩ | ⟨g, cn, rfl, hg1, hg2, hg3, hg4⟩
          · omega
          obtain ⟨nn, hnn2⟩ : ∃ nn, nn = pn.length + 1 := ⟨_, rfl⟩
          rw [hnn, ← hnn2] at hn hg3 ⊢
          have hna : pn.length < nn := by omega
          have hnb : nn ≤ pn.length + 1 := by omega
          clear hnn hnn2
          unfold maxLen at hg4
          have HN := Lib.hid hn
          have hz0 : ((nn : Int) == 0) = false := by simp; omega
          have hbq5 := hbq.trans (b5.mono hbq.size)
          clear hn q0
          go_wp2
          go_loopw [9, 10] (fun s9 s10 wq => ∃ j : Nat, j ≤ i ∧ s10 = .int .i64 j ∧ s9 = .bool (decide (k0 < j)) ∧ Below w5.heap.size w5 wq) (fun _ s10 _ => i - (intOf s10).toNat)
          case atStart => exact ⟨0, Nat.zero_le _, rfl, by simp, Below.refl _ _⟩
          case round =>
            obtain ⟨j, hj, rfl, rfl, hbj⟩ := hrel
            by_cases hji : j < i
            · have hcj := HCL.out j (by omega)
              have hjne := HNE.out j hji
              have hjk := HKI.out j hji
              have hjL : j < L.length := by omega
              have hjk0 : j = k0 → L[j]'hjL = (joinB pn, dir) := by rintro rfl; exact HKK.out
              have hbb := hbq5.trans (hbj.mono hbq5.size)
              generalize L[j] = u at *
              obtain ⟨up, uz⟩ := u
              dsimp only at hcj hjne hjk
              have HU := Lib.hid hcj
              have HJK := Lib.hid hjk
              have HJK0 := Lib.hid hjk0
              clear hcj hjk hjk0
              have j0 : (0 : Int) ≤ (j : Int) := by omega
              have j1 : (j : Int) < (L.length : Int) := by omega
              have i0 : (0 : Int) ≤ (i : Int) := by omega
              have i1 : (i : Int) < (L.length : Int) := by omega
              have j2 : (j : Int) < (i : Int) := by omega
              have hdr : Below wr.heap.size wr wr.drew := (Below.refl _ _).drew
              have hdr2 : Below wr.heap.size wr (wr.alloc (.cells #[.int .i64 0, .int .i64 0, .int .i64 0, .string ⟨#[]⟩, .int .i64 0, .slice none 0 0] 41)).drew := (alloc_below wr _).drew
              have hGc : ∀ W, Below wr.heap.size wr W → Calls Try.prog 17 #[.agg (fsC mi mb nx (.slice a l.length ca)), .int .i64 uz] W fun e w' => e = .returned (.tuple #[.agg (ndC (getN l uz)), .bool (hasN l uz)]) ∧ Below W.heap.size W w' :=
                fun W hW => refGetT_any mi mb nx uz l _ _ (HV.out.below (HD.out.trans ((hbb.trans (hW.mono hbb.size)).mono HD.out.size)))
              have HMK : ∀ W, Below wr.heap.size wr W → (W.cell? ⟨w.heap.size, 0, none⟩ = some (.int .i64 mi) ∧ W.cell? ⟨w.heap.size, 1, none⟩ = some (.int .i64 mb) ∧ W.cell? ⟨w.heap.size, 2, none⟩ = some (.int .i64 nx) ∧ W.cell? ⟨w.heap.size, 3, none⟩ = some (.slice a l.length ca) ∧ W.cell? ⟨b, o + j * 2 + 1, none⟩ = some (.int .i64 uz)) := by
                intro W h
                have h2 := hbb.trans (h.mono hbb.size)
                obtain ⟨⟨x0, x1, x2, x3⟩, _⟩ := (bF.next h2).four
                exact ⟨x0, x1, x2, x3, (h2.cell (p := ⟨b, o + j * 2 + 1, none⟩) hb).trans HU.out.2⟩
              obtain ⟨ag, ng, cg, hgs⟩ := get_slice HV.out uz
              have hEG := get_ents HV.out.all uz
              have hmem : j = k0 → (nm, qz) ∈ (getN l uz).ents := by
                intro h
                have h2 : uz = dir := (Prod.mk.inj (HJK0.out h)).2
                rw [h2]
                exact HENT.out
              generalize getN l uz = G at *
              obtain ⟨gi, gk, gl, gd, gp, ge, gn⟩ := G
              dsimp only at hgs hEG hmem
              subst hgs
              generalize hasN l uz = r at *
              have HEG := Lib.hid hEG
              have HMEM := Lib.hid hmem
              have hG1 := hGc _ hdr
              have hG2 := hGc _ hdr2
              have hG3 := hGc (wr.drew.alloc (.cells #[.int .i64 0, .int .i64 0, .int .i64 0, .string ⟨#[]⟩, .int .i64 0, .slice none 0 0] 41)) (hdr.alloc hdr.size _)
              have hq := hdr
              clear hEG hmem
              go_upto_region 21 with fail
              go_cut [11, 12] from 78 to 87 (fun s11 s12 wc => ∃ BX, s11 = .pointer (some ⟨BX, 0, none⟩) ∧ Below wr.heap.size wr wc ∧ Aside (Blk wc BX 41 (ndC ⟨gi, gk, gl, gd, gp, .slice ag ng cg, gn⟩)))
              case first =>
                go_region_held3 (fun W => W.cell? ⟨w.heap.size, 0, none⟩ = some (.int .i64 mi) ∧ W.cell? ⟨w.heap.size, 1, none⟩ = some (.int .i64 mb) ∧ W.cell? ⟨w.heap.size, 2, none⟩ = some (.int .i64 nx) ∧ W.cell? ⟨w.heap.size, 3, none⟩ = some (.slice a l.length ca) ∧ W.cell? ⟨b, o + j * 2 + 1, none⟩ = some (.int .i64 uz))
                  (first | with_reducible exact HMK _ hq | with_reducible exact HMK _ (hq.alloc hq.size _) | with_reducible exact HMK _ hdr2 | with_reducible exact HMK _ (below_grown hq hgW (Nat.le_refl _) (Nat.le_refl _)))
                  (first
                    | (go_at_call 17; with_reducible refine hG1.mono ?_; rintro e w6 ⟨rfl, b6⟩; have hq := hq.trans (b6.mono hq.size))
                    | (go_at_call 17; (first | with_reducible refine hG3.mono ?_ | with_reducible refine hG2.mono ?_); rintro e w6 ⟨rfl, b6⟩; have hbx : Blk w6 wr.heap.size 41 (ndC zeroN) := Blk.next (W := wr.drew.alloc (.cells #[.int .i64 0, .int .i64 0, .int .i64 0, .string ⟨#[]⟩, .int .i64 0, .slice none 0 0] 41)) (Blk.new wr.drew 41 (ndC zeroN)) b6; have hq := (hq.alloc hq.size (.cells #[.int .i64 0, .int .i64 0, .int .i64 0, .string ⟨#[]⟩, .int .i64 0, .slice none 0 0] 41)).trans (b6.mono (hq.alloc hq.size (.cells #[.int .i64 0, .int .i64 0, .int .i64 0, .string ⟨#[]⟩, .int .i64 0, .slice none 0 0] 41)).size); obtain ⟨⟨x0, x1, x2, x3, x4, x5⟩, f0, f1, f2, f3, f4, f5⟩ := hbx.six; simp only [zeroN] at x0 x1 x2 x3 x4 x5; obtain ⟨W', hW', hbW, hgW⟩ := hbx.put6 ⟨gi, gk, gl, gd, gp, .slice ag ng cg, gn⟩; dsimp only at hW'))
                all_goals (go_wp2_with fail; go_meet)
                all_goals first
                  | exact ⟨_, rfl, hq.alloc hq.size _, Blk.new w6 41 (ndC ⟨gi, gk, gl, gd, gp, .slice ag ng cg, gn⟩)⟩
                  | exact ⟨_, rfl, below_grown hq hgW (Nat.le_refl _) (Nat.le_refl _), hbW⟩
              case rest =>
                obtain ⟨BX, rfl, hbc, HX⟩ := hcut
                clear hGc hG1 hG2 hG3 hq hdr hdr2 HMK
                have hbc5 := hbj.trans (hbc.mono hbj.size)
                have hbc0 := hbb.trans (hbc.mono hbb.size)
                have e1 := (hbc0.cell (p := ⟨b, o + j * 2, none⟩) hb).trans HU.out.1
                have e2 := (hbc0.cell (p := ⟨b, o + i * 2, none⟩) hb).trans HQ.out.1
                have hpe : (up == qp) = false := by simpa using hjne
                go_upto_region 22 with fail
                go_quiet (fail)
                generalize hwd : wc.drewN _ = wd at *
                have hbd : Below wc.heap.size wc wd := by rw [← hwd]; exact below_drewN (Below.refl _ _) _
                clear hwd e1 e2
                have hbd5 := hbc5.trans (hbd.mono hbc5.size)
                have hbd0 := hbc0.trans (hbd.mono hbc0.size)
                have HX2 := Lib.hid (HX.out.next hbd)
                clear HX
                go_upto_region 24 with fail
                have hS : ∀ W, Below wd.heap.size wd W → Strs W (.slice (some ⟨g, 0, none⟩) pn.length cn) pn := by
                  intro W hW
                  have := strs_cut (own_keep HN.out (hbd5.trans (hW.mono hbd5.size))) pn.length (by simp) cn
                  rwa [List.take_left] at this
                have hNM : ∀ W, Below wd.heap.size wd W → W.cell? ⟨g, pn.length, none⟩ = some (.string ⟨nm.toArray⟩) := by
                  intro W hW
                  rw [(own_keep HN.out (hbd5.trans (hW.mono hbd5.size))).cellAt pn.length (by omega)]
                  simp [strsV]
                have hUp : ∀ W, Below wd.heap.size wd W → W.cell? ⟨b, o + j * 2, none⟩ = some (.string ⟨up.toArray⟩) := by
                  intro W hW
                  exact ((hbd0.trans (hW.mono hbd0.size)).cell (p := ⟨b, o + j * 2, none⟩) hb).trans HU.out.1
                have hQz : ∀ W, Below wd.heap.size wd W → W.cell? ⟨b, o + i * 2 + 1, none⟩ = some (.int .i64 qz) := by
                  intro W hW
                  exact ((hbd0.trans (hW.mono hbd0.size)).cell (p := ⟨b, o + i * 2 + 1, none⟩) hb).trans HQ.out.2
                have hw1 : IntKind.i64.wrap ((nn : Int) - 1) = (pn.length : Int) := by rw [IntKind.wrap_i64]; omega
                have hw3 : IntKind.i64.wrap (pn.length : Int) = (pn.length : Int) := by rw [IntKind.wrap_i64]; omega
                have n0 : (0 : Int) ≤ (pn.length : Int) := by omega
                have n1 : (pn.length : Int) ≤ (cn : Int) := by omega
                have n2 : ¬ pn.length = cn := by omega
                have n5 : ¬ cn = 0 := by omega
                have n6 : pn.length ≤ cn := by omega
                have n7 : 0 < cn := by omega
                have n4 : (pn.length : Int) < (nn : Int) := by omega
                have hq := (Below.refl wd.heap.size wd).drew
                by_cases hjk : j = k0
                · have hup : up = joinB pn := (Prod.mk.inj (HJK0.out hjk)).1
                  have hpe2 : (up == joinB pn) = true := by rw [hup]; simp
                  have hd0 : decide (k0 < j) = false := decide_eq_false (by omega)
                  have hd1 : decide (k0 < j + 1) = true := decide_eq_true (by omega)
                  have HMM := Lib.hid (HMEM.out hjk)
                  clear hup hjk
                  rw [hd0]
                  go_region_held3 (fun W => W.cell? ⟨b, o + j * 2, none⟩ = some (.string ⟨up.toArray⟩))
                    (exact hUp _ hq)
                    (first
                      | (go_at_call 22; refine (refJoin_any pn _ _ (hS _ hq) (by omega) (by omega)).mono ?_; rintro e wz ⟨rfl, rfl⟩))
                  obtain ⟨ag2, cg2, hgs, hE1, hE2, hE3⟩ := HEG.out
                  simp only [Value.slice.injEq] at hgs
                  obtain ⟨rfl, rfl, rfl⟩ := hgs
                  unfold maxLen at hE2
                  have HE := Lib.hid hE3
                  clear hE3 hd0
                  have HS2 := Lib.hid (show _ ∧ _ from ⟨hNM, hQz⟩)
                  clear hNM hQz hUp hS
                  go_wp2
                  go_loopw [9, 13] (fun s9 s13 wq => ∃ m : Nat, m ≤ gn.length ∧ s13 = .int .i64 m ∧ s9 = .bool ((gn.take m).any (sameE nm qz)) ∧ Below wd.heap.size wd wq) (fun _ s13 _ => gn.length - (intOf s13).toNat)
                  case atStart => exact ⟨0, Nat.zero_le _, rfl, by simp, hq⟩
                  case round =>
                    clear hq
                    obtain ⟨m, hm2, rfl, rfl, hbm⟩ := hrel
                    have x5 := (HX2.out.next hbm).six.1.2.2.2.2.2
                    dsimp only at x5
                    by_cases hml : m < gn.length
                    · obtain ⟨be, oe, rfl, hbe, hce⟩ := HE.out (by omega)
                      have hwd : Below w.heap.size w wr := HD.out.trans ((hbd0.trans (hbm.mono hbd0.size)).mono HD.out.size)
                      have g0 := (hwd.cell (p := ⟨be, oe + m * 2, none⟩) hbe).trans (hce m hml).1
                      have g1 := (hwd.cell (p := ⟨be, oe + m * 2 + 1, none⟩) hbe).trans (hce m hml).2
                      have g2 := HS2.out.1 _ hbm
                      have g3 := HS2.out.2 _ hbm
                      clear hce hwd
                      have hnx := anyT_next (p := sameE nm qz) hml
                      have hsm : sameE nm qz gn[m] = (gn[m].1 == nm && gn[m].2 == qz) := rfl
                      rw [hsm] at hnx
                      clear hsm
                      generalize gn[m] = en at *
                      obtain ⟨en1, en2⟩ := en
                      dsimp only at g0 g1 hnx
                      have m0 : (0 : Int) ≤ (m : Int) := by omega
                      have m1 : (m : Int) < (gn.length : Int) := by omega
                      cases hfd : (gn.take m).any (sameE nm qz)
                      · cases he1 : (en1 == nm)
                        · rw [hfd, he1] at hnx
                          have HNX := Lib.hid hnx
                          clear hnx hfd
                          go_wp2
                          go_quiet (fail)
                          go_wp2
                          go_roundw
                          case rel => exact ⟨m + 1, by omega, by go_num, by rw [HNX.out]; rfl, below_drewN hbm _⟩
                          case measure => simp [intOf]; omega
                        · cases he2 : (en2 == qz)
                          · rw [hfd, he1, he2] at hnx
                            have HNX := Lib.hid hnx
                            clear hnx hfd
                            go_wp2
                            go_quiet (fail)
                            go_wp2
                            go_roundw
                            case rel => exact ⟨m + 1, by omega, by go_num, by rw [HNX.out]; rfl, below_drewN hbm _⟩
                            case measure => simp [intOf]; omega
                          · rw [hfd, he1, he2] at hnx
                            have HNX := Lib.hid hnx
                            clear hnx hfd
                            go_wp2
                            go_quiet (fail)
                            go_wp2
                            go_roundw
                            case rel => exact ⟨m + 1, by omega, by go_num, by rw [HNX.out]; rfl, below_drewN hbm _⟩
                            case measure => simp [intOf]; omega
                      · rw [hfd] at hnx
                        have HNX := Lib.hid hnx
                        clear hnx hfd
                        go_wp2
                        go_quiet (fail)
                        go_wp2
                        go_roundw
                        case rel => exact ⟨m + 1, by omega, by go_num, by rw [HNX.out]; rfl, below_drewN hbm _⟩
                        case measure => simp [intOf]; omega
                    · obtain rfl : m = gn.length := by omega
                      rw [List.take_length]
                      have hany : gn.any (sameE nm qz) = true := List.any_eq_true.2 ⟨_, HMM.out, by simp [sameE]⟩
                      rw [hany]
                      clear hany
                      have HD1 := Lib.hid hd1
                      clear hd1
                      go_wp2
                      go_roundw
                      case rel => exact ⟨j + 1, by omega, by go_num, by rw [HD1.out], hbd5.trans (hbm.mono hbd5.size)⟩
                      case measure => simp [intOf]; omega
                · have hpe2 : (up == joinB pn) = false := by simpa using HJK.out hjk
                  have hd : decide (k0 < j) = decide (k0 < j + 1) := by
                    by_cases h : k0 < j
                    · rw [decide_eq_true h, decide_eq_true (by omega)]
                    · rw [decide_eq_false h, decide_eq_false (by omega)]
                  clear hjk
                  rw [hd]
                  go_region_held3 (fun W => W.cell? ⟨b, o + j * 2, none⟩ = some (.string ⟨up.toArray⟩))
                    (exact hUp _ hq)
                    (first
                      | (go_at_call 22; refine (refJoin_any pn _ _ (hS _ hq) (by omega) (by omega)).mono ?_; rintro e wz ⟨rfl, rfl⟩))
                  go_wp2
                  go_roundw
                  case rel => exact ⟨j + 1, by omega, by go_num, rfl, hbd5.trans (hq.mono hbd5.size)⟩
                  case measure => simp [intOf]; omega
            · obtain rfl : j = i := by omega
              have hd : decide (k0 < j) = true := decide_eq_true hk0
              have hbj2 := hbq5.trans (hbj.mono hbq5.size)
              rw [hd]
              go_wp2
              go_roundw
              case rel => exact ⟨j + 1, by omega, by omega, by go_num, hbj2⟩
              case measure => simp [intOf]; omega
        · obtain rfl : i = L.length := by omega
          go_wp2
          go_ret
          exact ⟨rfl, hB4⟩

namespace LWalkOrder
set_option maxRecDepth 100000 in
theorem lifted (os : Os) (started : os.Started) (H : Type) (enc : TypeId × Value → H) :
    ReturnsInHanded {} Try.checked os 6 .any (Rows.walkOrderSpec.pre6 enc Try.prog Try.f6 Rows.walkOrderRow.domain false) (Rows.walkOrderSpec.post enc Try.prog Try.f6 false true false false) := by
  refine returnsInHanded_of_change (C := Try.checked) (by kernel_rfl) started (by kernel_rfl) Try.func6
    (ChangeSpec.witness6 (enc := enc) (C := Try.checked) false ⟨#[], #[.agg #[.int .i64 0, .int .i64 0, .int .i64 0, .slice none 0 0]], []⟩ 8 (by kernel_rfl) (by kernel_rfl) (by kernel_rfl) (by kernel_rfl)) ?_
  intro W base args ds gs before hval0 hW hcnd _
  have hval : ∀ (j : Nat) t v, Try.f6.params[j]? = some t → args[j]? = some v → Value.okWide Try.prog W .any base t v := hval0
  have hW' := hW
  obtain ⟨p, q, hA0, hV, rfl, hfz, hnd⟩ := hW
  have hA : DataW.TrodAll enc Try.prog W 0 (fun _ => true) true Try.f6.params.toList args.toList ds p := hA0
  rw [Try.params6] at hA hval
  obtain ⟨v0, vs0, d0, ds0, p0, q0, hargs, rfl, rfl, k0, r0⟩ := trodAll_cons hA
  obtain ⟨rfl, rfl, rfl⟩ := trodAll_nil r0
  obtain rfl : args = #[v0] := by cases args; simp_all
  obtain ⟨rfl, rfl⟩ := trodVars_none hV
  have ok0 := hval 0 24 v0 rfl rfl
  have lt0 : ∀ x ∈ p0, x.block < W.heap.size := by obtain ⟨m, hm⟩ := k0; exact DataW.trod_lt m _ _ _ hm
  have C : Calls Try.prog 6 #[v0] W fun e w' => e = .returned (.bool true) ∧ Below W.heap.size W w' := by
    clear hA0 hval0 hval hW' hcnd hV hfz hnd
    obtain ⟨mi, mb, nx, x, l, rfl, hx⟩ := fs_of_trod k0 ok0
    exact lawOrder mi mb nx l x W hx
  refine C.mono fun e W' ⟨he, bel⟩ => ?_
  subst he
  exact ⟨_, rfl, _, _, _, [], _, [], hW', trodAll_mk1 (shut_bool Try.underlying4 _), (trodAll_cons_mk (Below.trod laidOut (by kernel_rfl) (of_decide_eq_true (by kernel_rfl)) k0 bel lt0) trodAll_mk0), rfl, bel.frame _, fun h => by cases h⟩
theorem proved : Rows.WalkOrderSaid :=
  OpenClaim.holds_of_wide 6 Try.f6 rfl rfl rfl rfl rfl rfl rfl ⟨rfl, rfl, rfl, rfl, rfl⟩ rfl rfl rfl rfl rfl (by kernel_rfl) Try.func6 (by kernel_rfl)
    (of_decide_eq_true (by kernel_rfl)) (by unfold Func.isWrapper; first | (rw [if_pos (by decide +kernel)]; kernel_rfl) | (rw [if_neg (by decide +kernel)]; exact ⟨rfl, rfl⟩))
    (fun os started H enc _ => lifted os started H enc)
#print axioms proved
end LWalkOrder
end Go.Proofs.Ytneklkjlcpgdgaa
