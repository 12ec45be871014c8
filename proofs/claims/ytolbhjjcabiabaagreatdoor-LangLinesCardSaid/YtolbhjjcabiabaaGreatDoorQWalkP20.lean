import Derived.Test.YtolbhjjcabiabaaGreatDoorQMWalkP19
import Derived.Test.YtolbhjjcabiabaaGreatDoorQMTab20
set_option linter.unusedVariables false
set_option linter.unusedSimpArgs false
/- Walks: the program's tell, read, Read. -/
set_option linter.unusedVariables false
set_option linter.unusedSimpArgs false
namespace Go.Proofs.YtolbhjjcabiabaaGreatDoor
open Go.RowKit

theorem grown_of20 {w w' : World} (h : Below w.heap.size w w') (row : Option Nat) : w.grownBy w' row := ⟨h.os, h.tape, h.output, h.size, fun k hk _ => h.block k hk⟩
theorem below_of20 {w w' : World} {B n : Nat} (h : w.grownBy w' (some B)) (hn : n ≤ w.heap.size) (hB : n ≤ B) : Below n w w' := (Below.refl n w).grown h hn (fun k e => by cases e; exact hB)
theorem set_slot20 {o : OpV} {B : Nat} {W : World} {t : TypeId} (h : Blk W B t (opC o)) (n : Int) : Blk (W.setCell ⟨B, 1, none⟩ (.int .i64 n)) B t (opC { o with slot := n }) := h.set 1 (.int .i64 n)
theorem set_text20 {o : OpV} {B : Nat} {W : World} {t : TypeId} (h : Blk W B t (opC o)) (c : UInt8) (x : List UInt8) : Blk (W.setCell ⟨B, fieldC c, none⟩ (.string ⟨x.toArray⟩)) B t (opC (putP o c x)) := by
  have hs := h.set (fieldC c) (.string ⟨x.toArray⟩)
  unfold fieldC putP at *
  by_cases h1 : c = 68
  · rw [if_pos h1] at hs ⊢
    rw [if_pos h1]
    exact hs
  · by_cases h2 : c = 65
    · rw [if_neg h1, if_pos h2] at hs ⊢
      rw [if_neg h1, if_pos h2]
      exact hs
    · rw [if_neg h1, if_neg h2] at hs ⊢
      rw [if_neg h1, if_neg h2]
      exact hs
theorem Blk.frozenC {W : World} {B : Nat} {t : TypeId} {cs : Array Value} (h : Blk W B t cs) (i : Nat) : W.frozen? ⟨B, i, none⟩ = false := h.frozen i
set_option maxRecDepth 100000 in
theorem tell_any (o : OpV) (c : UInt8) (x : List UInt8) (B : Nat) (w : World) (hL : LaidZ20 w) (hb : Blk w B 23 (opC o)) (hx : x.length ≤ 1000000) :
    Calls Tryz.prog 44 #[.pointer (some ⟨B, 0, none⟩), .int .u8 c.toNat, .string ⟨x.toArray⟩] w fun e w' => ∃ p : OpV, e = .returned (.bool (tellP o c x).isSome) ∧ (∀ q, tellP o c x = some q → p = q) ∧ Blk w' B 23 (opC p) ∧ w.grownBy w' (some B) := by
  by_cases h83 : c = 83
  · have HT : Hid (tellP o c x = (numP x).map (fun (n : Nat) => { o with slot := (n : Int) })) := Lib.hid (if_pos h83)
    have hnum := fun W hW => number_any x W hW hx
    have HQ : Hid (∀ q, tellP o c x = some q → ({ o with slot := (((numP x).getD 0 : Nat) : Int) } : OpV) = q) := Lib.hid (fun q hq => by
      rw [HT.out] at hq
      cases hn : numP x with
      | none => rw [hn] at hq; cases hq
      | some n => rw [hn] at hq; cases hq; rfl)
    have HS : Hid ((tellP o c x).isSome = (numP x).isSome) := Lib.hid (by rw [HT.out, Option.isSome_map])
    generalize (numP x).getD 0 = n at *
    generalize (numP x).isSome = bs at *
    subst h83
    clear HT
    go_enter Tryz.func44, Tryz.ntmps44
    go_wp2_with fail
    refine (hnum _ hL).mono ?_
    rintro e w1 ⟨rfl, b1⟩
    have b2 := set_slot20 (hb.next b1) (n : Int)
    have f1 := (hb.next b1).frozenC 1
    have hg := (grown_of20 b1 (some B)).trans (grownBy_set w1 B 1 (.int .i64 (n : Int)))
    have c1 := (hb.next b1).five.2.1
    have HB2 := Lib.hid b2
    have HG := Lib.hid hg
    clear b2 hg
    go_wp2
    go_ret
    exact ⟨_, by rw [HS.out]; rfl, HQ.out, HB2.out, HG.out⟩
  · have HT : Hid (tellP o c x = (unquoteB x).map (putP o c)) := Lib.hid (if_neg h83)
    have hun := fun W => Unquote_any x W hx
    have HQ : Hid (∀ q, tellP o c x = some q → putP o c ((unquoteB x).getD []) = q) := Lib.hid (fun q hq => by
      rw [HT.out] at hq
      cases hn : unquoteB x with
      | none => rw [hn] at hq; cases hq
      | some n => rw [hn] at hq; cases hq; rfl)
    have HS : Hid ((tellP o c x).isSome = (unquoteB x).isSome) := Lib.hid (by rw [HT.out, Option.isSome_map])
    have n83 : ((c.toNat : Int) == 83) = false := by rw [beq_eq_false_iff_ne]; intro e; exact h83 (UInt8.toNat_inj.1 (by simp; omega))
    have hX := fun W hW => textOf_any c B W hW
    have HP := Lib.hid (fun (W : World) (h : Blk W B 23 (opC o)) => set_text20 h c ((unquoteB x).getD []))
    have HC := Lib.hid (fun (W : World) (h : Blk W B 23 (opC o)) => text_cell h c)
    unfold unqV at hun
    generalize (unquoteB x).getD [] = t at *
    generalize (unquoteB x).isSome = bs at *
    generalize fieldC c = f at *
    generalize putP o c t = p at *
    generalize textP o c = u at *
    clear HT h83
    go_enter Tryz.func44, Tryz.ntmps44
    go_wp2_with fail
    refine (hX _ ⟨_, hb⟩).mono ?_
    rintro e w0 ⟨rfl, rfl⟩
    go_wp2_with fail
    refine (hun _).mono ?_
    rintro e w1 ⟨rfl, b1⟩
    have b2 := HP.out _ (hb.next b1)
    have f1 := (hb.next b1).frozenC f
    have c1 := HC.out _ (hb.next b1)
    have hg := (grown_of20 b1 (some B)).trans (grownBy_set w1 B f (.string ⟨t.toArray⟩))
    have HB2 := Lib.hid b2
    have HG := Lib.hid hg
    clear b2 hg
    go_wp2
    go_ret
    exact ⟨p, by rw [HS.out]; rfl, HQ.out, HB2.out, HG.out⟩
theorem readP_nil {s : List UInt8} (h : splitB s = none ∨ splitB s = some []) : readP s = none := by
  unfold readP
  rcases h with h | h <;> rw [h]
theorem readP_not {s x : List UInt8} {xs : List (List UInt8)} (h : splitB s = some (x :: xs)) (hk : kindW x = 0 ∨ xs.length ≠ (tellsK (kindW x)).length) : readP s = none := by
  unfold readP
  rw [h]
  exact if_pos hk
theorem readP_is {s x : List UInt8} {xs : List (List UInt8)} (h : splitB s = some (x :: xs)) (hk : ¬ (kindW x = 0 ∨ xs.length ≠ (tellsK (kindW x)).length)) : readP s = (foldP ⟨kindW x, 0, [], [], []⟩ (tellsK (kindW x)) xs).bind (fun o => if mayO o = true then some o else none) := by
  unfold readP
  rw [h]
  exact if_neg hk
theorem foldP_at {o : OpV} {ts : List UInt8} {xs : List (List UInt8)} {k : Nat} (h1 : k < ts.length) (h2 : k < xs.length) : foldP o (ts.drop k) (xs.drop k) = (tellP o ts[k] xs[k]).bind (fun p => foldP p (ts.drop (k + 1)) (xs.drop (k + 1))) := by
  rw [List.drop_eq_getElem_cons h1, List.drop_eq_getElem_cons h2]; rfl
/-- An operation that was read of short words has short texts. -/
theorem fold_len {n : Nat} : ∀ (ts : List UInt8) (xs : List (List UInt8)) (o p : OpV), foldP o ts xs = some p → (∀ x ∈ xs, x.length ≤ n) → (o.a.length ≤ n ∧ o.b.length ≤ n ∧ o.data.length ≤ n) → (p.a.length ≤ n ∧ p.b.length ≤ n ∧ p.data.length ≤ n)
  | [], [], o, p, h, _, ho => by simp only [foldP, Option.some.injEq] at h; subst h; exact ho
  | c :: cs, x :: xs, o, p, h, hx, ho => by
    rw [foldP] at h
    cases ht : tellP o c x with
    | none => rw [ht] at h; cases h
    | some r =>
      rw [ht] at h
      refine fold_len cs xs r p h (fun y hy => hx y (List.mem_cons_of_mem _ hy)) ?_
      have hxn := hx x (by simp)
      unfold tellP at ht
      split at ht
      · cases hn : numP x with
        | none => rw [hn] at ht; cases ht
        | some m => rw [hn] at ht; cases ht; exact ho
      · cases hu : unquoteB x with
        | none => rw [hu] at ht; cases ht
        | some t =>
          rw [hu] at ht
          cases ht
          have htl : t.length ≤ n := by
            have h1 := unquoteB_some hu
            have h2 := forms_ge t
            have h3 : (quoteB t).length = (formsB t).length + 2 := by simp [quoteB]
            rw [h1] at h3
            omega
          unfold putP
          split
          · exact ⟨ho.1, ho.2.1, htl⟩
          · split
            · exact ⟨htl, ho.2.1, ho.2.2⟩
            · exact ⟨ho.1, htl, ho.2.2⟩
  | [], _ :: _, _, _, h, _, _ => by simp [foldP] at h
  | _ :: _, [], _, _, h, _, _ => by simp [foldP] at h
set_option maxHeartbeats 8000000 in
set_option maxRecDepth 100000 in
theorem read_any (s : List UInt8) (bm : Nat) (w : World) (hL : Laid20 w) (hM : KindsM w bm 10) (hs : s.length ≤ 100000) :
    Calls Tryz.prog 22 #[.string ⟨s.toArray⟩, .map (some bm)] w fun e w' => e = .returned (.tuple #[.agg (opC ((readO s).getD zeroO)), .bool (readO s).isSome]) ∧ Below w.heap.size w w' := by
  have bR := Blk.new w 23 (opC zeroO)
  have hB := Joins.below_alloc1 w (.cells (opC zeroO) 23)
  have hLw := hL.next hB
  have hMw := hM.next hB
  rw [← read_p s]
  clear hL hM
  cases hw : splitB s with
  | none =>
    have HN := Lib.hid (readP_nil (.inl hw))
    have hSp := split_none20 (w := w.alloc (.cells (opC zeroO) 23)) (by omega) hw
    clear hw
    go_enter Tryz.func22, Tryz.ntmps22
    go_wp2_with fail
    refine hSp.mono ?_
    rintro e w1 ⟨a, c, rfl, b1⟩
    clear hSp
    have bR1 := bR.next b1
    have hB1 := hB.trans (b1.mono hB.size)
    (obtain ⟨r0, r1, r2, r3, r4⟩ := bR1.five; have e0 := bR1.frozen 0; have e1 := bR1.frozen 1; have e2 := bR1.frozen 2; have e3 := bR1.frozen 3; have e4 := bR1.frozen 4; dsimp only [zeroO] at r0 r1 r2 r3 r4; obtain ⟨W', hW', hb5, hg5⟩ := bR1.putFive (.int .i64 0) (.int .i64 0) (.string ⟨#[]⟩) (.string ⟨#[]⟩) (.string ⟨#[]⟩); have hbl := grown_below20 (hB1) hg5 (Nat.le_refl _) (Nat.le_refl _); go_wp2; obtain ⟨y0, y1, y2, y3, y4⟩ := hb5.five; refine bodyPost_ret (v := .tuple #[.agg (opC zeroO), .bool false]) (by simp [results, Tryz.f22, go_sem, y0, y1, y2, y3, y4, zeroO]) rfl ?_; exact ⟨by rw [HN.out]; rfl, hbl⟩)
  | some ws =>
    have hSp := split_some20 (w := w.alloc (.cells (opC zeroO) 23)) (by omega) hw
    cases ws with
    | nil =>
      have HN := Lib.hid (readP_nil (.inr hw))
      clear hw
      go_enter Tryz.func22, Tryz.ntmps22
      go_wp2_with fail
      refine hSp.mono ?_
      rintro e w1 ⟨a, c, rfl, hown, b1⟩
      clear hSp hown
      have bR1 := bR.next b1
      have hB1 := hB.trans (b1.mono hB.size)
      (obtain ⟨r0, r1, r2, r3, r4⟩ := bR1.five; have e0 := bR1.frozen 0; have e1 := bR1.frozen 1; have e2 := bR1.frozen 2; have e3 := bR1.frozen 3; have e4 := bR1.frozen 4; dsimp only [zeroO] at r0 r1 r2 r3 r4; obtain ⟨W', hW', hb5, hg5⟩ := bR1.putFive (.int .i64 0) (.int .i64 0) (.string ⟨#[]⟩) (.string ⟨#[]⟩) (.string ⟨#[]⟩); have hbl := grown_below20 (hB1) hg5 (Nat.le_refl _) (Nat.le_refl _); go_wp2; obtain ⟨y0, y1, y2, y3, y4⟩ := hb5.five; refine bodyPost_ret (v := .tuple #[.agg (opC zeroO), .bool false]) (by simp [results, Tryz.f22, go_sem, y0, y1, y2, y3, y4, zeroO]) rfl ?_; exact ⟨by rw [HN.out]; rfl, hbl⟩)
    | cons x xs =>
      obtain ⟨hz, _⟩ := split_size hw
      have hxl := hz x (by simp)
      have hyl : ∀ y ∈ xs, y.length ≤ 100000 := fun y hy => Nat.le_trans (hz y (List.mem_cons_of_mem _ hy)) hs
      clear hz
      have hz0 : ((xs.length : Int) + 1 == 0) = false := by rw [beq_eq_false_iff_ne]; omega
      have hkb := kindW_bounds x
      obtain ⟨m, hm⟩ : ∃ m : Nat, kindW x = m := ⟨(kindW x).toNat, by omega⟩
      have hlook := fun (W : World) (h : KindsM W bm 10) => h.look (x := x) (by omega)
      have hpat := hLw.2.1
      by_cases h0 : m = 0
      · have HN := Lib.hid (readP_not hw (.inl (by omega)))
        subst h0
        clear hw
        go_enter Tryz.func22, Tryz.ntmps22
        go_wp2_with fail
        refine hSp.mono ?_
        rintro e w1 ⟨a, c, rfl, hown, b1⟩
        obtain ⟨g, c2, hgc⟩ := ownsRow_succ (k := xs.length) hown
        cases hgc
        have c0 : w1.cell? ⟨g, 0, none⟩ = some (.string ⟨x.toArray⟩) := hown.cellAt 0 (by simp)
        have hrun := hlook w1 (hMw.next b1)
        rw [hm] at hrun
        simp only [Int.natCast_zero, ne_eq, not_true_eq_false, decide_false] at hrun
        have cp : w1.cell? ⟨0, 1, none⟩ = some (.string ⟨#[]⟩) := ((hpat.next b1).2 0 (by decide)).2
        have bR1 := bR.next b1
        have hB1 := hB.trans (b1.mono hB.size)
        clear hSp hown hlook hpat
        (obtain ⟨r0, r1, r2, r3, r4⟩ := bR1.five; have e0 := bR1.frozen 0; have e1 := bR1.frozen 1; have e2 := bR1.frozen 2; have e3 := bR1.frozen 3; have e4 := bR1.frozen 4; dsimp only [zeroO] at r0 r1 r2 r3 r4; obtain ⟨W', hW', hb5, hg5⟩ := bR1.putFive (.int .i64 0) (.int .i64 0) (.string ⟨#[]⟩) (.string ⟨#[]⟩) (.string ⟨#[]⟩); have hbl := grown_below20 (hB1) hg5 (Nat.le_refl _) (Nat.le_refl _); go_wp2; obtain ⟨y0, y1, y2, y3, y4⟩ := hb5.five; refine bodyPost_ret (v := .tuple #[.agg (opC zeroO), .bool false]) (by simp [results, Tryz.f22, go_sem, y0, y1, y2, y3, y4, zeroO]) rfl ?_; exact ⟨by rw [HN.out]; rfl, hbl⟩)
      · have hpl := (hpat.2 m (by omega)).2
        rw [← hm] at hpl
        by_cases hn : xs.length = (tellsK (kindW x)).length
        · have HR := Lib.hid (readP_is hw (by rintro (c | c); omega; exact c hn))
          have HFL := Lib.hid (fun p hp => fold_len (n := 100000) (tellsK (kindW x)) xs ⟨kindW x, 0, [], [], []⟩ p hp hyl (by simp))
          have HK : Hid (1 ≤ kindW x ∧ kindW x ≤ 10) := Lib.hid (by omega)
          have hts := tells_len (kindW x)
          have htp := tells_pos HK.out.1 HK.out.2
          have HAT := Lib.hid (fun (o : OpV) (k : Nat) (h1 : k < (tellsK (kindW x)).length) (h2 : k < xs.length) => foldP_at (o := o) h1 h2)
          have HKM : Hid (kindW x = (m : Int)) := Lib.hid hm
          generalize tellsK (kindW x) = ts at *
          clear hw
          have hn2 : ((xs.length : Int) + 1 != 1 + (ts.length : Int)) = false := by rw [bne_eq_false_iff_eq]; omega
          have HNN := Lib.hid hn
          clear hn
          go_enter Tryz.func22, Tryz.ntmps22
          go_wp2_with fail
          refine hSp.mono ?_
          rintro e w1 ⟨a, c, rfl, hown, b1⟩
          obtain ⟨g, c2, hgc⟩ := ownsRow_succ (k := xs.length) hown
          cases hgc
          have c0 : w1.cell? ⟨g, 0, none⟩ = some (.string ⟨x.toArray⟩) := hown.cellAt 0 (by simp)
          have hrun := hlook w1 (hMw.next b1)
          rw [hm, decide_eq_true (show ((m : Int)) ≠ 0 by omega)] at hrun
          have hp1 := hpat.next b1
          have cp : w1.cell? ⟨0, m * 2 + 1, none⟩ = some (.string ⟨ts.toArray⟩) := (b1.cell (p := ⟨0, m * 2 + 1, none⟩) hpat.1).trans hpl
          have k1 : m ≤ 10 := by omega
          have bR1 := bR.next b1
          have hB1 := hB.trans (b1.mono hB.size)
          have hL1 := hLw.next b1
          have hgl := hown.lt g rfl
          have hcap : xs.length + 1 ≤ c := by
            rcases hown.2 with ⟨h, _⟩ | ⟨g', cap, cur, h, _, _, hnc, _⟩
            · cases h
            · cases h; exact hnc
          have HCX : Hid (∀ i (h : i < xs.length), w1.cell? ⟨g, 1 + i, none⟩ = some (.string ⟨xs[i].toArray⟩)) := Lib.hid (fun i h => by
            have := hown.cellAt (1 + i) (by simp; omega)
            rw [this, Nat.add_comm 1 i]
            simp [strsV])
          have HPOS : Hid (1 ≤ ts.length) := Lib.hid htp
          have hc1 : ¬ c = 1 := by have := HNN.out; have := HPOS.out; omega
          clear hSp hown hlook hpat hp1 hpl
          go_wp2
          have bO := Blk.new w1 23 (opC ⟨(m : Int), 0, [], [], []⟩)
          have b2 := Joins.below_alloc1 w1 (.cells #[.int .i64 (m : Int), .int .i64 0, .string ⟨#[]⟩, .string ⟨#[]⟩, .string ⟨#[]⟩] 23)
          have hL2 := hL1.next b2
          have bR2 := bR1.next b2
          have hB2 := hB1.trans (b2.mono hB1.size)
          have HCX2 : Hid (∀ i (h : i < xs.length), (w1.alloc (.cells #[.int .i64 (m : Int), .int .i64 0, .string ⟨#[]⟩, .string ⟨#[]⟩, .string ⟨#[]⟩] 23)).cell? ⟨g, 1 + i, none⟩ = some (.string ⟨xs[i].toArray⟩)) := Lib.hid (fun i h => (b2.cell (p := ⟨g, 1 + i, none⟩) hgl.2).trans (HCX.out i h))
          have hsz2 : (w1.alloc (.cells #[.int .i64 (m : Int), .int .i64 0, .string ⟨#[]⟩, .string ⟨#[]⟩, .string ⟨#[]⟩] 23)).heap.size = w1.heap.size + 1 := by simp
          have hwsz := hB1.size
          have hgw : w.heap.size < w1.heap.size := Nat.lt_of_lt_of_le (show w.heap.size < (w.alloc (.cells (opC zeroO) 23)).heap.size by simp) b1.size
          have hglt := hgl.2
          generalize hW2 : w1.alloc (.cells #[.int .i64 (m : Int), .int .i64 0, .string ⟨#[]⟩, .string ⟨#[]⟩, .string ⟨#[]⟩] 23) = w2 at *
          have HFF : Hid (∀ o, foldP o (ts.drop 0) (xs.drop 0) = foldP o ts xs) := Lib.hid (fun o => rfl)
          obtain ⟨F, hF⟩ : ∃ F, foldP ⟨kindW x, 0, [], [], []⟩ ts xs = F := ⟨_, rfl⟩
          rw [hF] at HR
          have HF0 : Hid (foldP ⟨(m : Int), 0, [], [], []⟩ (ts.drop 0) (xs.drop 0) = F) := Lib.hid (by rw [← hF, HKM.out]; rfl)
          have HFL2 := Lib.hid (fun p (h : F = some p) => HFL.out p (hF.trans h))
          clear hW2 bR1 HCX hrun cp c0 bR hLw hMw HFL HFF hF hcap hc1
          go_loopw [51] (fun s51 wr => ∃ (k : Nat) (o : OpV), k ≤ ts.length ∧ s51 = .int .i64 (k : Int) ∧ Aside (foldP o (ts.drop k) (xs.drop k) = F) ∧ Blk wr w1.heap.size 23 (opC o) ∧ w2.grownBy wr (some w1.heap.size)) (fun s51 _ => ts.length - (intOf s51).toNat)
          case atStart => exact ⟨0, ⟨(m : Int), 0, [], [], []⟩, Nat.zero_le _, rfl, HF0.out, bO, ⟨rfl, rfl, rfl, Nat.le_refl _, fun _ _ _ => rfl⟩⟩
          case round =>
            obtain ⟨k, o, hk, rfl, HT, bOr, hgr⟩ := hrel
            have hbr := below_of20 (n := w1.heap.size) hgr (by omega) (Nat.le_refl _)
            have hLr : Laid20 wr := hL1.next (b2.trans (hbr.mono (Nat.le_refl _)))
            have bRr := bR2.below hbr (by omega)
            have hBr := hB2.trans (hbr.mono (by omega))
            by_cases hlt : k < ts.length
            · have hltx : k < xs.length := by have := HNN.out; omega
              have HTK := Lib.hid (HT.out.symm.trans (HAT.out o k hlt hltx))
              have hcx : wr.cell? ⟨g, 1 + k, none⟩ = some (.string ⟨xs[k].toArray⟩) := (hbr.cell (p := ⟨g, 1 + k, none⟩) hglt).trans (HCX2.out k hltx)
              have htl := tell_any o ts[k] xs[k] w1.heap.size wr hLr.2.2 bOr (by have := hyl xs[k] (List.getElem_mem hltx); omega)
              have k3 : (0 : Int) ≤ (k : Int) := by omega
              have k4 : (k : Int) < (ts.length : Int) := by omega
              have k5 : (k : Int) < (xs.length : Int) := by have := HNN.out; omega
              clear HT HCX2 HAT
              cases htt : tellP o ts[k] xs[k] with
              | none =>
                have HN : Hid (readP s = none) := Lib.hid (by rw [HR.out, show F = none by rw [HTK.out, htt]; rfl]; rfl)
                rw [htt] at htl
                simp only [Option.isSome_none] at htl
                go_wp2_with fail
                refine htl.mono ?_
                rintro e w5 ⟨p, rfl, hpq, bO5, hg5⟩
                have hb5 := below_of20 (n := w1.heap.size) hg5 (by have := hbr.size; omega) (Nat.le_refl _)
                have bR5 := bRr.below hb5 (by omega)
                have hB5 := hBr.trans (hb5.mono (by omega))
                clear htl hpq bO5 hcx
                (obtain ⟨r0, r1, r2, r3, r4⟩ := bR5.five; have e0 := bR5.frozen 0; have e1 := bR5.frozen 1; have e2 := bR5.frozen 2; have e3 := bR5.frozen 3; have e4 := bR5.frozen 4; dsimp only [zeroO] at r0 r1 r2 r3 r4; obtain ⟨W', hW', hb5, hg5⟩ := bR5.putFive (.int .i64 0) (.int .i64 0) (.string ⟨#[]⟩) (.string ⟨#[]⟩) (.string ⟨#[]⟩); have hbl := grown_below20 (hB5) hg5 (Nat.le_refl _) (Nat.le_refl _); go_wp2; obtain ⟨y0, y1, y2, y3, y4⟩ := hb5.five; refine bodyPost_ret (v := .tuple #[.agg (opC zeroO), .bool false]) (by simp [results, Tryz.f22, go_sem, y0, y1, y2, y3, y4, zeroO]) rfl ?_; exact ⟨by rw [HN.out]; rfl, hbl⟩)
              | some q =>
                rw [htt] at htl
                simp only [Option.isSome_some] at htl
                go_wp2_with fail
                refine htl.mono ?_
                rintro e w5 ⟨p, rfl, hpq, bO5, hg5⟩
                obtain rfl := hpq q rfl
                have HT5 : Hid (foldP p (ts.drop (k + 1)) (xs.drop (k + 1)) = F) := Lib.hid (by rw [HTK.out, htt]; rfl)
                have hg6 := hgr.trans hg5
                clear htl hpq hcx
                go_wp2
                go_roundw
                case rel => exact ⟨k + 1, p, by omega, by go_num, HT5.out, bO5, hg6⟩
                case measure => simp [intOf]; omega
            · obtain rfl : k = ts.length := by omega
              have HFo : Hid (F = some o) := Lib.hid (by
                have := HT.out
                rw [List.drop_length, List.drop_of_length_le (by have := HNN.out; omega)] at this
                exact this.symm)
              have k5 : ¬ ((ts.length : Int) < (xs.length : Int)) := by have := HNN.out; omega
              obtain ⟨l1, l2, l3⟩ := HFL2.out o HFo.out
              have hMy := fun W hW => May19_any o W hW l1 l2 l3
              obtain ⟨o0, o1, o2, o3, o4⟩ := bOr.five
              have HRR : Hid (readP s = if mayO o = true then some o else none) := Lib.hid (by rw [HR.out, HFo.out]; rfl)
              clear HT HFL2 HFo HCX2 HAT l1 l2 l3
              cases hmy : mayO o
              · have HN : Hid (readP s = none) := Lib.hid (by rw [HRR.out, hmy]; rfl)
                rw [hmy] at hMy
                go_wp2_with fail
                refine (hMy _ hLr.1).mono ?_
                rintro e w5 ⟨rfl, b5⟩
                have bR5 := bRr.next b5
                have hB5 := hBr.trans (b5.mono hBr.size)
                clear hMy o0 o1 o2 o3 o4
                (obtain ⟨r0, r1, r2, r3, r4⟩ := bR5.five; have e0 := bR5.frozen 0; have e1 := bR5.frozen 1; have e2 := bR5.frozen 2; have e3 := bR5.frozen 3; have e4 := bR5.frozen 4; dsimp only [zeroO] at r0 r1 r2 r3 r4; obtain ⟨W', hW', hb5, hg5⟩ := bR5.putFive (.int .i64 0) (.int .i64 0) (.string ⟨#[]⟩) (.string ⟨#[]⟩) (.string ⟨#[]⟩); have hbl := grown_below20 (hB5) hg5 (Nat.le_refl _) (Nat.le_refl _); go_wp2; obtain ⟨y0, y1, y2, y3, y4⟩ := hb5.five; refine bodyPost_ret (v := .tuple #[.agg (opC zeroO), .bool false]) (by simp [results, Tryz.f22, go_sem, y0, y1, y2, y3, y4, zeroO]) rfl ?_; exact ⟨by rw [HN.out]; rfl, hbl⟩)
              · have HN : Hid (readP s = some o) := Lib.hid (by rw [HRR.out, hmy]; rfl)
                rw [hmy] at hMy
                go_wp2_with fail
                refine (hMy _ hLr.1).mono ?_
                rintro e w5 ⟨rfl, b5⟩
                have bR5 := bRr.next b5
                have bO5 := bOr.next b5
                have hB5 := hBr.trans (b5.mono hBr.size)
                clear hMy o0 o1 o2 o3 o4
                obtain ⟨ok, os, oa, ob, od⟩ := o
                obtain ⟨o0, o1, o2, o3, o4⟩ := bO5.five
                dsimp only at o0 o1 o2 o3 o4
                obtain ⟨r0, r1, r2, r3, r4⟩ := bR5.five
                have e0 := bR5.frozen 0
                have e1 := bR5.frozen 1
                have e2 := bR5.frozen 2
                have e3 := bR5.frozen 3
                have e4 := bR5.frozen 4
                obtain ⟨W', hW', hb5, hg5⟩ := bR5.putFive (.int .i64 ok) (.int .i64 os) (.string ⟨oa.toArray⟩) (.string ⟨ob.toArray⟩) (.string ⟨od.toArray⟩)
                have hbl := grown_below20 hB5 hg5 (Nat.le_refl _) (Nat.le_refl _)
                go_wp2
                obtain ⟨y0, y1, y2, y3, y4⟩ := hb5.five
                refine bodyPost_ret (v := .tuple #[.agg (opC ⟨ok, os, oa, ob, od⟩), .bool true]) (by simp [results, Tryz.f22, go_sem, y0, y1, y2, y3, y4]) rfl ?_
                exact ⟨by rw [HN.out]; rfl, hbl⟩
        · have HN := Lib.hid (readP_not hw (.inr hn))
          have hts := tells_len (kindW x)
          generalize tellsK (kindW x) = ts at *
          clear hw
          have hn2 : ((xs.length : Int) + 1 != 1 + (ts.length : Int)) = true := by rw [bne_iff_ne]; omega
          clear hn
          go_enter Tryz.func22, Tryz.ntmps22
          go_wp2_with fail
          refine hSp.mono ?_
          rintro e w1 ⟨a, c, rfl, hown, b1⟩
          obtain ⟨g, c2, hgc⟩ := ownsRow_succ (k := xs.length) hown
          cases hgc
          have c0 : w1.cell? ⟨g, 0, none⟩ = some (.string ⟨x.toArray⟩) := hown.cellAt 0 (by simp)
          have hrun := hlook w1 (hMw.next b1)
          rw [hm, decide_eq_true (show ((m : Int)) ≠ 0 by omega)] at hrun
          have hp1 := hpat.next b1
          have cp : w1.cell? ⟨0, m * 2 + 1, none⟩ = some (.string ⟨ts.toArray⟩) := (b1.cell (p := ⟨0, m * 2 + 1, none⟩) hpat.1).trans hpl
          have k1 : m ≤ 10 := by omega
          have bR1 := bR.next b1
          have hB1 := hB.trans (b1.mono hB.size)
          clear hSp hown hlook hpat hp1 hpl
          (obtain ⟨r0, r1, r2, r3, r4⟩ := bR1.five; have e0 := bR1.frozen 0; have e1 := bR1.frozen 1; have e2 := bR1.frozen 2; have e3 := bR1.frozen 3; have e4 := bR1.frozen 4; dsimp only [zeroO] at r0 r1 r2 r3 r4; obtain ⟨W', hW', hb5, hg5⟩ := bR1.putFive (.int .i64 0) (.int .i64 0) (.string ⟨#[]⟩) (.string ⟨#[]⟩) (.string ⟨#[]⟩); have hbl := grown_below20 (hB1) hg5 (Nat.le_refl _) (Nat.le_refl _); go_wp2; obtain ⟨y0, y1, y2, y3, y4⟩ := hb5.five; refine bodyPost_ret (v := .tuple #[.agg (opC zeroO), .bool false]) (by simp [results, Tryz.f22, go_sem, y0, y1, y2, y3, y4, zeroO]) rfl ?_; exact ⟨by rw [HN.out]; rfl, hbl⟩)
end Go.Proofs.YtolbhjjcabiabaaGreatDoor
