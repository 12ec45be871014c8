/- Walks: the document's paths of an inode, and whether what was seen is the same. -/
import Derived.Test.YtneklkjlcpgdgaaQWalkA08
import Derived.Test.YtneklkjlcpgdgaaQ
import Derived.BigQuiet
import Derived.Laws.StructEq
namespace Go.Proofs.Ytneklkjlcpgdgaa
open Go.RowKit

theorem refSameS_any (la lb : List Ent) (va vb : Value) (w : World) (ha : Ents w va la) (hb : Ents w vb lb) :
    Calls Try.prog 10 #[va, vb] w fun e w' => e = .returned (.bool (decide (la = lb))) ∧ Below w.heap.size w w' := by
  obtain ⟨a, ca, rfl, hca, hma, HA⟩ := ha
  obtain ⟨b, cb, rfl, hcb, hmb, HB⟩ := hb
  unfold maxLen at hma hmb
  by_cases hl : la.length = lb.length
  · have HA' := Lib.hid HA
    have HB' := Lib.hid HB
    clear HA HB
    have hne : ((la.length : Int) != (lb.length : Int)) = false := by simp; omega
    have HL := Lib.hid hl
    have hl2 : la.length ≤ lb.length := by omega
    clear hl
    go_enter Try.func10, Try.ntmps10
    go_wp2
    go_loopw [5] (fun i wr => ∃ k : Nat, k ≤ la.length ∧ i = .int .i64 k ∧ Aside (la.take k = lb.take k) ∧ Below w.heap.size w wr) (fun i _ => la.length - (intOf i).toNat)
    case atStart => exact ⟨0, Nat.zero_le _, rfl, rfl, Below.refl _ _⟩
    case round =>
      obtain ⟨k, hk, rfl, HT, hbw⟩ := hrel
      by_cases hlt : k < la.length
      · have hltb : k < lb.length := by omega
        obtain ⟨ba, oa, rfl, hba, hxa⟩ := HA'.out (by omega)
        obtain ⟨bb, ob, rfl, hbb, hxb⟩ := HB'.out (by omega)
        have c1 : wr.cell? ⟨ba, oa + k * 2, none⟩ = some (.string ⟨la[k].1.toArray⟩) := (hbw.cell (p := ⟨ba, oa + k * 2, none⟩) hba).trans (hxa k hlt).1
        have c2 : wr.cell? ⟨ba, oa + k * 2 + 1, none⟩ = some (.int .i64 la[k].2) := (hbw.cell (p := ⟨ba, oa + k * 2 + 1, none⟩) hba).trans (hxa k hlt).2
        have c3 : wr.cell? ⟨bb, ob + k * 2, none⟩ = some (.string ⟨lb[k].1.toArray⟩) := (hbw.cell (p := ⟨bb, ob + k * 2, none⟩) hbb).trans (hxb k hltb).1
        have c4 : wr.cell? ⟨bb, ob + k * 2 + 1, none⟩ = some (.int .i64 lb[k].2) := (hbw.cell (p := ⟨bb, ob + k * 2 + 1, none⟩) hbb).trans (hxb k hltb).2
        clear hxa hxb
        have k0 : (0 : Int) ≤ (k : Int) := by omega
        have k1 : (k : Int) < (la.length : Int) := by omega
        have k2 : (k : Int) < (lb.length : Int) := by omega
        cases he : la[k].1 == lb[k].1
        · have hne2 : Hid (decide (la = lb) = false) := by
            show _ = _
            rw [decide_eq_false_iff_not]
            intro e
            subst e
            simp at he
          go_wp2
          go_quiet (fail)
          go_wp2
          go_ret
          exact ⟨by rw [hne2.out]; rfl, below_drewN hbw _⟩
        · cases hn : la[k].2 == lb[k].2
          · have hne2 : Hid (decide (la = lb) = false) := by
              show _ = _
              rw [decide_eq_false_iff_not]
              intro e
              subst e
              simp at hn
            go_wp2
            go_quiet (fail)
            go_wp2
            go_ret
            exact ⟨by rw [hne2.out]; rfl, below_drewN hbw _⟩
          · have HT2 : Hid (la.take (k + 1) = lb.take (k + 1)) := by
              show _ = _
              rw [List.take_succ_eq_append_getElem hlt, List.take_succ_eq_append_getElem hltb, HT.out]
              rw [beq_iff_eq] at he hn
              rw [show la[k] = lb[k] from Prod.ext he hn]
            go_wp2
            go_quiet (fail)
            go_wp2
            go_roundw
            case rel => exact ⟨k + 1, by omega, by go_num, HT2.out, below_drewN hbw _⟩
            case measure => simp [intOf]; omega
      · obtain rfl : k = la.length := by omega
        have heq : Hid (decide (la = lb) = true) := by
          show _ = _
          rw [decide_eq_true_eq]
          have := HT.out
          rw [List.take_length, HL.out, List.take_length] at this
          exact this
        clear HT
        go_wp2
        go_ret
        exact ⟨by rw [heq.out]; rfl, hbw⟩
  · have hne : ((la.length : Int) != (lb.length : Int)) = true := by rw [bne_iff_ne]; omega
    have hd : Hid (decide (la = lb) = false) := by
      show _ = _
      rw [decide_eq_false_iff_not]; rintro rfl; exact hl rfl
    clear HA HB
    go_enter Try.func10, Try.ntmps10
    go_wp2
    go_ret
    exact ⟨by rw [hd.out]; rfl, Below.refl _ _⟩

theorem infoStr8 : (Try.prog.info? 9).map (fun i => (i.zero, i.size, i.bytes)) = some (some (.string ⟨#[]⟩), 1, 16) := by kernel_rfl

set_option maxHeartbeats 4000000 in
set_option maxRecDepth 100000 in
theorem refPaths_any (mi mb nx i : Int) (l : List Nd) (v : Value) (w : World) (hv : Nds w v l) (hsh : ∀ x ∈ l, shortP 300 x.ents) (hl : l.length ≤ 1000) (ht : (listN l).length ≤ 1000000) :
    Calls Try.prog 15 #[.agg (fsC mi mb nx v), .int .i64 i] w fun e w' => ∃ y, e = .returned y ∧ w'.ownsRow w.heap.size 9 1 y (pathsN l i).length (strsV (pathsN l i)) ∧ Below w.heap.size w w' := by
  obtain ⟨is, hsi, hs0, hs1, hs2⟩ := info_parts infoStr8
  obtain ⟨a, ca, rfl⟩ := nds_slice hv
  have bF := Blk.new w 24 (fsC mi mb nx (.slice a l.length ca))
  have hB := alloc_below w (.cells (fsC mi mb nx (.slice a l.length ca)) 24)
  have hC := refList_any mi mb nx l _ _ (hv.below hB) hsh hl ht
  have HP : Hid (pathsN l i = pathT (listN l) i (listN l).length) := (pathT_end _ _).symm
  generalize listN l = L at *
  obtain ⟨⟨p0, p1, p2, p3⟩, _⟩ := bF.four
  go_enter Try.func15, Try.ntmps15
  go_wp2_with fail
  refine hC.mono ?_
  rintro e w2 ⟨y, rfl, hown, b2⟩
  have hE := own_ents hown
  have hB2 := hB.trans (b2.mono hB.size)
  obtain ⟨ay, cy, rfl, hE1, hE2, hE3⟩ := id hE
  unfold maxLen at hE2
  have HE := Lib.hid hE3
  clear hC p0 p1 p2 p3 hE3 hown hE b2 bF hv
  go_wp2
  go_loopw [5, 7] (fun s5 s7 wr => ∃ k : Nat, k ≤ L.length ∧ s7 = .int .i64 k ∧ Below w2.heap.size w2 wr ∧ Aside (wr.ownsRow w2.heap.size 9 1 s5 (pathT L i k).length (strsV (pathT L i k)))) (fun _ s7 _ => L.length - (intOf s7).toNat)
  case atStart => exact ⟨0, Nat.zero_le _, rfl, Below.refl _ _, World.ownsRow_nil _ _ _ _⟩
  case round =>
    obtain ⟨k, hk, rfl, hbw, HO⟩ := hrel
    by_cases hlt : k < L.length
    · obtain ⟨b, o, rfl, hb, hcl⟩ := HE.out (by omega)
      have c0 := (hbw.cell (p := ⟨b, o + k * 2, none⟩) hb).trans (hcl k hlt).1
      have c1 := (hbw.cell (p := ⟨b, o + k * 2 + 1, none⟩) hb).trans (hcl k hlt).2
      clear hcl
      have hnx := pathT_next (i := i) hlt
      have hpl := pathT_len L i k
      generalize L[k] = en at *
      obtain ⟨nm, z⟩ := en
      dsimp only at c0 c1 hnx
      have k0 : (0 : Int) ≤ (k : Int) := by omega
      have k1 : (k : Int) < (L.length : Int) := by omega
      cases he : (z == i)
      · rw [he, if_neg (by simp)] at hnx
        have HN := Lib.hid hnx
        clear hnx
        go_wp2
        go_roundw
        case rel => exact ⟨k + 1, by omega, by go_num, hbw, by (show World.ownsRow _ _ _ _ _ _ _); rw [HN.out]; exact HO.out⟩
        case measure => simp [intOf]; omega
      · rw [he, if_pos rfl] at hnx
        have HN := Lib.hid hnx
        have hsz := hbw.size
        clear hnx
        generalize pathT L i k = F at *
        go_wp2_with (at_builtin; refine wpList_append_new rfl (.tmp 23) (.tmp 29) 27 9 rfl Try.underlying27 hsi hs0 hs1 hs2 rfl (by decide) (by decide) w2.heap.size #[.string ⟨nm.toArray⟩] 1 rfl rfl HO.out rfl (by simp [Value.oneCell']) (by omega) hsz ?_; intro v3 w3 hown3 hb3)
        have O3 : Hid (w3.ownsRow w2.heap.size 9 1 v3 (F ++ [nm]).length (strsV (F ++ [nm]))) := by
          (show World.ownsRow _ _ _ _ _ _ _); rw [List.length_append]; simpa [strsV] using hown3
        have hbb := hbw.trans hb3
        clear hown3 hb3
        go_roundw
        case rel => exact ⟨k + 1, by omega, by go_num, hbb, by (show World.ownsRow _ _ _ _ _ _ _); rw [HN.out]; exact O3.out⟩
        case measure => simp [intOf]; omega
    · obtain rfl : k = L.length := by omega
      go_wp2
      go_ret
      exact ⟨_, rfl, by rw [HP.out]; exact own_base HO.out hB2.size, hB2.trans (hbw.mono hB2.size)⟩
end Go.Proofs.Ytneklkjlcpgdgaa
