/- Walks: nameOf, slices.Reverse of texts, PathOf. -/
import Derived.Test.YtneklkjlcpgdgaaQWalkE08
import Derived.Test.YtneklkjlcpgdgaaQ
namespace Go.Proofs.Ytneklkjlcpgdgaa
open Go.RowKit Go.Sort

def nameB (es : List Ent) (i : Int) : List UInt8 := ((es.find? (fun e => e.2 == i)).map (·.1)).getD []
theorem find_upto {es : List Ent} {i : Int} {k : Nat} (h : k < es.length) (hno : ∀ j (hj : j < es.length), j < k → es[j].2 ≠ i) : es.find? (fun e => e.2 == i) = (es.drop k).find? (fun e => e.2 == i) := by
  have e := List.take_append_drop k es
  conv => lhs; rw [← e]
  rw [List.find?_append]
  have : (es.take k).find? (fun e => e.2 == i) = none := by
    rw [List.find?_eq_none]
    intro x hx
    obtain ⟨j, hj, rfl⟩ := List.getElem_of_mem hx
    rw [List.length_take] at hj
    rw [List.getElem_take]
    simpa using hno j (by omega) (by omega)
  rw [this]; rfl
theorem nameB_at {es : List Ent} {i : Int} {k : Nat} (h : k < es.length) (hno : ∀ j (hj : j < es.length), j < k → es[j].2 ≠ i) (hi : es[k].2 = i) : nameB es i = es[k].1 := by
  unfold nameB
  rw [find_upto h hno, List.drop_eq_getElem_cons h, List.find?_cons, show (es[k].2 == i) = true from by simpa using hi]
  rfl
theorem nameB_no {es : List Ent} {i : Int} (hno : ∀ j (hj : j < es.length), es[j].2 ≠ i) : nameB es i = [] := by
  unfold nameB
  have : es.find? (fun e => e.2 == i) = none := by
    rw [List.find?_eq_none]
    intro x hx
    obtain ⟨j, hj, rfl⟩ := List.getElem_of_mem hx
    simpa using hno j hj
  rw [this]; rfl

set_option maxHeartbeats 2000000 in
theorem nameOf_any (es : List Ent) (v : Value) (i : Int) (w : World) (hv : Ents w v es) :
    Calls Try.prog 33 #[v, .int .i64 i] w fun e w' => e = .returned (.string ⟨(nameB es i).toArray⟩) ∧ Below w.heap.size w w' := by
  obtain ⟨a, c, rfl, h1, h2, h3⟩ := hv
  unfold maxLen at h2
  have HE := Lib.hid h3
  clear h3
  go_enter Try.func33, Try.ntmps33
  go_wp2
  go_loopw [9] (fun s9 wr => ∃ k : Nat, k ≤ es.length ∧ s9 = .int .i64 k ∧ Below w.heap.size w wr ∧ Aside (∀ j (hj : j < es.length), j < k → es[j].2 ≠ i)) (fun s9 _ => es.length - (intOf s9).toNat)
  case atStart => exact ⟨0, Nat.zero_le _, rfl, Below.refl _ _, fun j hj h => by omega⟩
  case round =>
    obtain ⟨k, hk, rfl, hbw, HN⟩ := hrel
    by_cases hlt : k < es.length
    · obtain ⟨b, o, rfl, hb, hc⟩ := HE.out (by omega)
      obtain ⟨d0, d1⟩ := hc k hlt
      replace d0 := (hbw.cell (p := ⟨b, o + k * 2, none⟩) hb).trans d0
      replace d1 := (hbw.cell (p := ⟨b, o + k * 2 + 1, none⟩) hb).trans d1
      clear hc
      have hat := fun h => nameB_at (i := i) hlt HN.out h
      have hnx : es[k].2 ≠ i → ∀ j (hj : j < es.length), j < k + 1 → es[j].2 ≠ i := fun h j hj hjk => by
        rcases Nat.lt_or_ge j k with h' | h'
        · exact HN.out j hj h'
        · obtain rfl : j = k := by omega
          exact h
      generalize es[k] = e at *
      obtain ⟨nm, z⟩ := e
      dsimp only at d0 d1 hat hnx
      have hbl := hbw.alloc hbw.size (.cells #[.string ⟨nm.toArray⟩, .int .i64 z] 55)
      have k0 : (0 : Int) ≤ (k : Int) := by omega
      have k1 : (k : Int) < (es.length : Int) := by omega
      cases hz : (z == i)
      · have HT2 := Lib.hid (hnx (by simpa using hz))
        clear hat hnx HN
        go_wp2
        go_roundw
        case rel => exact ⟨k + 1, by omega, by go_num, hbl, HT2.out⟩
        case measure => simp [intOf]; omega
      · have HF := Lib.hid (hat (by simpa using hz))
        clear hat hnx HN
        go_wp2
        go_ret
        exact ⟨by rw [HF.out]; rfl, hbl⟩
    · have HF := Lib.hid (nameB_no (es := es) (i := i) (fun j hj => HN.out j hj (by omega)))
      go_wp2
      go_ret
      exact ⟨by rw [HF.out]; rfl, hbw⟩

theorem rev_any (ns : List (List UInt8)) (v : Value) (w : World) (base : Nat) (hown : w.ownsRow base 9 1 v ns.length (strsV ns)) (hl : ns.length ≤ 1000000) :
    Calls Try.prog 34 #[v] w fun e w' => e = .returned (.tuple #[]) ∧ Strs w' v ns.reverse ∧ Below base w w' := by
  rcases own_cases hown with ⟨rfl, h0, _⟩ | ⟨g, c, rfl, hg, hgl, hn, hc⟩
  · have : ns = [] := List.eq_nil_of_length_eq_zero h0
    subst this
    refine (Try.slices_Reverse_string_empty none 0 w).mono ?_
    rintro e w' ⟨rfl, rfl⟩
    exact ⟨rfl, Strs.nil_ _, Below.refl _ _⟩
  · have hS := own_strs hown
    obtain ⟨x, c', e, hm, h1⟩ := hS
    simp only [Value.slice.injEq] at e
    obtain ⟨rfl, _, rfl⟩ := e
    have hH : Holds encStr w g 0 ns.toArray := by
      intro j hj
      have hj' : j < ns.length := by simpa using hj
      refine ⟨?_, own_frozen hown _⟩
      have := hown.cellAt j (by omega)
      rw [Nat.zero_add, this]
      simp [strsV, hj', getElem!_pos]
    refine (Try.slices_Reverse_string g 0 c ns w hH (by omega)).mono ?_
    rintro e w' ⟨rfl, q, rfl⟩
    refine ⟨rfl, ⟨_, _, by rw [List.length_reverse], by rw [List.length_reverse]; exact hm, fun hpos => ⟨g, 0, rfl, by simpa using hgl, fun i hi => ?_⟩⟩, ?_⟩
    · have := cell?_putRow encStr (Sort.ahead w q) g 0 ns.toArray ns.reverse.toArray (holds_ahead encStr w q g 0 _ hH) (by simp) i (by simpa using hi)
      rw [this]
      have hi' : i < ns.length := by simpa using hi
      simp [hi', getElem!_pos]
    · refine ⟨rfl, rfl, rfl, by simp, fun k hk => ?_⟩
      show (w.heap.modify g _)[k]? = _
      rw [Array.getElem?_modify, if_neg (by omega)]

def pathOfB (l : List Nd) (i : Int) : List UInt8 := if isDir l i = true then (pathsN l i).headD [] else []

set_option maxRecDepth 100000 in
set_option maxHeartbeats 4000000 in
theorem PathOfW_any (mi mb nx : Int) (l : List Nd) (t : Tree l) (hsh : ∀ x ∈ l, shortP 300 x.ents) (hl : l.length ≤ 100) (hd : ∀ x ∈ l, x.data.length ≤ 281474976710656) (v : Value) (w : World) (hv : Nds w v l) (dir : Int) :
    Calls Try.prog 16 #[.agg (fsC mi mb nx v), .int .i64 dir] w fun e w' => e = .returned (.tuple #[.string ⟨(pathOfB l dir).toArray⟩, .bool (isDir l dir)]) ∧ Below w.heap.size w w' := by
  obtain ⟨is, hsi, hs0, hs1, hs2⟩ := info_parts Try.infoS
  obtain ⟨af, cf, rfl⟩ := nds_slice hv
  have bF := Blk.new w 24 (fsC mi mb nx (.slice af l.length cf))
  have hB := alloc_below w (.cells (fsC mi mb nx (.slice af l.length cf)) 24)
  have nV := hv.below hB
  have hG := GetN_any mi mb nx dir l _ _ nV t.rise (by omega) hd
  obtain ⟨ag, ng, cg, hgs⟩ := get_slice hv dir
  have hge := get_ents hv.all dir
  have hkd : isDir l dir = (hasN l dir && decide ((getN l dir).kind = 2)) := rfl
  have hgm := get_mem (l := l) (i := dir)
  have hup := fun (ns : List (List UInt8)) (h : (ns, dir) ∈ walkS l 1 []) => up_step t h
  have HT := Lib.hid t
  have HDD := Lib.hid hd
  have HHS := Lib.hid hsh
  clear t hd hsh
  obtain ⟨⟨p0, p1, p2, p3⟩, _⟩ := bF.four
  go_enter Try.func16, Try.ntmps16
  go_wp2_with fail
  refine hG.mono ?_
  rintro e w2 ⟨rfl, b2⟩
  clear hG p0 p1 p2 p3
  have hB2 := hB.trans (b2.mono hB.size)
  by_cases hdir : isDir l dir = true
  · obtain ⟨tot, htot, hpt⟩ := dir_total HT.out hdir
    have HOUT : Hid (pathOfB l dir = joinB tot) := by (show _ = _); unfold pathOfB; rw [if_pos hdir, hpt]; rfl
    have HTOT := Lib.hid htot
    have hh : hasN l dir = true := by rw [hkd, Bool.and_eq_true] at hdir; exact hdir.1
    have hk : (getN l dir).kind = 2 := by rw [hkd, Bool.and_eq_true, decide_eq_true_eq] at hdir; exact hdir.2
    have HDIR := Lib.hid hdir
    have HGI := Lib.hid (hgm hh).2
    have hdeep := tree_deep l (l.length + 1) 1 [] _ htot
    have hsize := tree_size HHS.out (l.length + 1) 1 [] _ htot
    simp only [List.length_nil, tailB] at hdeep hsize
    clear hkd hgm hup htot hpt hdir
    generalize hGG : getN l dir = G at *
    have HGG := Lib.hid hGG
    clear hGG
    obtain ⟨gi, gk, gl, gd, gp, ge, gn⟩ := G
    dsimp only at hgs hge hk HGI
    subst hgs hk
    have bX := Blk.new w2 41 (ndC ⟨gi, 2, gl, gd, gp, .slice ag ng cg, gn⟩)
    have b3 := alloc_below w2 (.cells (ndC ⟨gi, 2, gl, gd, gp, .slice ag ng cg, gn⟩) 41)
    have bF3 := (bF.next b2).next b3
    have hB3 := hB2.trans (b3.mono hB2.size)
    have hX0 : w.heap.size + 1 ≤ w2.heap.size := by have := b2.size; simp at this; omega
    go_upto_region 4 with fail
    generalize w2.alloc (.cells (ndC ⟨gi, 2, gl, gd, gp, .slice ag ng cg, gn⟩) 41) = w3 at *
    clear bF nV hB hB2 b2 b3 hh
    generalize w2.heap.size = X at *
    have hI0 : Blk w3 X 41 (ndC (getN l dir)) ∧ (tot, dir) ∈ walkS l 1 [] ∧ (getN l dir).kind = 2 := by rw [HGG.out]; exact ⟨bX, HTOT.out, rfl⟩
    have HI0 := Lib.hid hI0
    clear hI0 bX HGI HGG
    have hw3 := hB3.size
    go_wp2
    go_loopg [8] tot.length (fun g s8 wr => ∃ (i : Int) (ns nsr : List (List UInt8)), g = ns.length ∧ Aside (wr.ownsRow w.heap.size 9 1 s8 nsr.length (strsV nsr)) ∧ Aside (Blk wr X 41 (ndC (getN l i)) ∧ Blk wr w.heap.size 24 (fsC mi mb nx (.slice af l.length cf))) ∧ Below w.heap.size w wr ∧ Aside ((ns, i) ∈ walkS l 1 [] ∧ (getN l i).kind = 2 ∧ tot = ns ++ nsr.reverse))
    case atStart => exact ⟨dir, tot, [], rfl, World.ownsRow_nil _ _ _ _, ⟨HI0.out.1, bF3⟩, hB3, HI0.out.2.1, HI0.out.2.2, by simp⟩
    case round =>
      clear HI0 bF3 hB3 hge
      obtain ⟨i, ns, nsr, rfl, HO, HBX, hBw, HP⟩ := hrel
      obtain ⟨bX, bF⟩ := HBX.out
      obtain ⟨hmem, hkind, htot⟩ := HP.out
      have hhi := tree_has l _ 1 [] _ hmem
      have hgi := (get_mem hhi).2
      have hroot := fun (h : i = 1) => up_root HT.out (ns := ns) (by rw [h] at hmem; exact hmem)
      have hstep := fun (h : i ≠ 1) => up_step HT.out hmem h hkind
      obtain ⟨ai, ni, ci, his⟩ := get_slice hv i
      have hnl : ns.length + nsr.length ≤ 200 := by have := congrArg List.length htot; simp at this; omega
      dsimp only at hhi
      generalize getN l i = I at *
      obtain ⟨ii, ik, il, id', ip, ie, inn⟩ := I
      dsimp only at his hgi hkind hstep
      subst his hkind
      subst hgi
      have HTT := Lib.hid htot
      have HROOT := Lib.hid hroot
      have HSTEP := Lib.hid hstep
      clear hmem hhi htot hroot hstep HBX HP
      obtain ⟨a8, c8, rfl⟩ := own_slice HO.out
      obtain ⟨⟨x0, x1, x2, x3, x4, x5⟩, _⟩ := bX.six
      dsimp only at x0 x1 x2 x3 x4 x5
      cases hi1 : (ii == 1)
      · obtain ⟨pn, nm, hpn, hpw, hph, hpk, hpf⟩ := HSTEP.out (by simpa using hi1)
        have HPN := Lib.hid hpn
        have HPW := Lib.hid hpw
        have HPF : Hid (nameB (getN l ip).ents ii = nm) := by (show _ = _); unfold nameB; rw [hpf]; rfl
        have HPK := Lib.hid hpk
        clear hpn hpw hpf hpk
        have hG := GetN_any mi mb nx ip l _ _ (hv.below hBw) HT.out.rise (by omega) HDD.out
        obtain ⟨ap, np, cp, hps⟩ := get_slice hv ip
        have hpe := get_ents hv.all ip
        generalize hGP : getN l ip = P at *
        have HGP := Lib.hid hGP
        clear hGP
        obtain ⟨pi, pk, pl, pd, pp, pe, pnn⟩ := P
        dsimp only at hps hpe HPF HPK
        subst hps
        rw [hph] at hG
        obtain ⟨⟨p0, p1, p2, p3⟩, _⟩ := bF.four
        go_wp2_with fail
        refine hG.mono ?_
        rintro e w4 ⟨rfl, b4⟩
        clear hG p0 p1 p2 p3 x0 x1 x2 x3 x4 x5
        have hBw4 := hBw.trans (b4.mono hBw.size)
        have bP := Blk.new w4 41 (ndC ⟨pi, pk, pl, pd, pp, .slice ap np cp, pnn⟩)
        have b5 := alloc_below w4 (.cells (ndC ⟨pi, pk, pl, pd, pp, .slice ap np cp, pnn⟩) 41)
        have bX5 := (bX.next b4).next b5
        have bF5 := (bF.next b4).next b5
        have hO5 := own_keep (own_keep HO.out b4) b5
        have hBw5 := hBw4.trans (b5.mono hBw4.size)
        have hXw : X < w4.heap.size := (bX.next b4).lt
        have hN := nameOf_any pnn _ ii (w4.alloc (.cells (ndC ⟨pi, pk, pl, pd, pp, .slice ap np cp, pnn⟩) 41)) (hpe.below hBw5)
        rw [HPF.out] at hN
        obtain ⟨⟨x0, x1, x2, x3, x4, x5⟩, _⟩ := bX5.six
        obtain ⟨⟨y0, y1, y2, y3, y4, y5⟩, _⟩ := bP.six
        dsimp only at x0 x1 x2 x3 x4 x5 y0 y1 y2 y3 y4 y5
        go_upto_region 7 with fail
        generalize w4.alloc (.cells (ndC ⟨pi, pk, pl, pd, pp, .slice ap np cp, pnn⟩) 41) = w5 at *
        generalize w4.heap.size = PB at *
        go_wp2_with fail
        refine hN.mono ?_
        rintro e w6 ⟨rfl, b6⟩
        clear hN x0 x1 x2 x3 x4 x5 y0 y1 y2 y3 y4 y5
        have hBw6 := hBw5.trans (b6.mono hBw5.size)
        have bX6 := bX5.next b6
        have bP6 := bP.next b6
        have bF6 := bF5.next b6
        have hO6 := own_keep hO5 b6
        have hw6 := hBw6.size
        clear bX5 bP bF5 hO5 hBw5 b5 b4 hBw4 bX bF
        go_upto_region 8 with (at_builtin; refine wpList_append_here rfl (.tmp 34) (.tmp 40) 27 9 rfl Try.underlying27 hsi hs0 hs1 hs2 rfl (by decide) (by decide) w.heap.size (v := .slice a8 nsr.length c8) _ 1 rfl rfl hO6 rfl (by simp [Value.oneCell']) (by omega) hw6 ?_; intro v8 w7 hown7 hgr7 hnew7)
        have bX7 := (bX6.alloc (.cells #[.string ⟨nm.toArray⟩] 9)).kept hgr7 (bX6.not_row (by decide) hO6)
        have bP7 := (bP6.alloc (.cells #[.string ⟨nm.toArray⟩] 9)).kept hgr7 (bP6.not_row (by decide) hO6)
        have bF7 := (bF6.alloc (.cells #[.string ⟨nm.toArray⟩] 9)).kept hgr7 (bF6.not_row (by decide) hO6)
        have al6 := alloc_below w6 (.cells #[.string ⟨nm.toArray⟩] 9)
        have hBw7 := (hBw6.trans (al6.mono hBw6.size)).grown hgr7 (by have := al6.size; omega) (fun r e => (hO6.lt r e).1)
        obtain ⟨⟨y0, y1, y2, y3, y4, y5⟩, _⟩ := bP7.six
        obtain ⟨⟨x0, x1, x2, x3, x4, x5⟩, e0, e1, e2, e3, e4, e5⟩ := bX7.six
        obtain ⟨W', hW', hb4, hg4⟩ := bX7.put6 ⟨pi, pk, pl, pd, pp, .slice ap np cp, pnn⟩
        dsimp only at x0 x1 x2 x3 x4 x5 y0 y1 y2 y3 y4 y5 hW'
        have bF8 := bF7.kept hg4 (by simp; omega)
        have hown8 := hown7.kept hg4 (.inr (bX7.not_row (by decide) hown7).symm)
        have hBw8 := hBw7.grown hg4 (by have := hBw7.size; omega) (fun r e => by cases e; omega)
        clear bX6 bP6 bF6 hO6 bX7 bP7 bF7 hown7 hgr7 hnew7 hg4
        go_wp2
        go_roundg pn.length
        case rel =>
          refine ⟨ip, pn, nsr ++ [nm], rfl, by (show World.ownsRow _ _ _ _ _ _ _); simpa [strsV] using hown8, ⟨by rw [HGP.out]; exact hb4, bF8⟩, hBw8, HPW.out, by rw [HGP.out]; exact HPK.out, ?_⟩
          rw [HTT.out, HPN.out]; simp
        case measure => rw [HPN.out]; simp
      · have hns := HROOT.out (by simpa using hi1)
        subst hns
        have hrv : nsr.reverse = tot := by rw [HTT.out]; rfl
        have hbn : (interB tot).length ≤ 1000000 := by have := interB_len_tail tot; omega
        have hR := rev_any nsr _ wr _ HO.out (by omega)
        rw [hrv] at hR
        go_wp2_with fail
        refine hR.mono ?_
        rintro e w9 ⟨rfl, hst, b9⟩
        clear hR x0 x1 x2 x3 x4 x5
        have hJN := Join_any tot _ w9 hst (by omega) hbn
        go_wp2_with fail
        refine hJN.mono ?_
        rintro e w10 ⟨rfl, b10⟩
        clear hJN
        go_wp2
        go_ret2
        have hb9 := hBw.trans b9
        exact ⟨by rw [HOUT.out, HDIR.out]; rfl, hb9.trans (b10.mono hb9.size)⟩
  · have hdir2 : isDir l dir = false := by simpa using hdir
    have HOUT : Hid (pathOfB l dir = []) := by (show _ = _); unfold pathOfB; rw [if_neg hdir]
    have HDIR := Lib.hid hdir2
    have hkk : hasN l dir = false ∨ (getN l dir).kind ≠ 2 := by
      rw [hkd] at hdir2
      cases h : hasN l dir
      · exact .inl rfl
      · rw [h, Bool.true_and, decide_eq_false_iff_not] at hdir2; exact .inr hdir2
    clear hkd hgm hup hdir hdir2
    generalize getN l dir = G at *
    obtain ⟨gi, gk, gl, gd, gp, ge, gn⟩ := G
    dsimp only at hgs hge hkk
    subst hgs
    generalize hasN l dir = r at *
    have b3 := hB2.alloc hB2.size (.cells (ndC ⟨gi, gk, gl, gd, gp, .slice ag ng cg, gn⟩) 41)
    cases r
    · clear hkk
      go_wp2
      go_ret2
      exact ⟨by rw [HOUT.out, HDIR.out]; rfl, b3⟩
    · have hk2 : (gk == 2) = false := by
        rcases hkk with h | h
        · cases h
        · simpa using h
      clear hkk
      go_wp2
      go_ret2
      exact ⟨by rw [HOUT.out, HDIR.out]; rfl, b3⟩
end Go.Proofs.Ytneklkjlcpgdgaa
