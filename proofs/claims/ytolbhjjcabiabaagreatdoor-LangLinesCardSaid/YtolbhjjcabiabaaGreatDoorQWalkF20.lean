import Derived.Test.YtolbhjjcabiabaaGreatDoorQWalkE20
set_option linter.unusedVariables false
set_option linter.unusedSimpArgs false
/- Walks: the document's Get. -/
set_option linter.unusedVariables false
set_option linter.unusedSimpArgs false
namespace Go.Proofs.YtolbhjjcabiabaaGreatDoor
open Go.RowKit

def opsV (l : List OpV) : List Value := l.flatMap fun o => (opC o).toList
theorem opsV_len (l : List OpV) : (opsV l).length = l.length * 5 := by
  induction l with
  | nil => rfl
  | cons o t ih => unfold opsV at ih ⊢; rw [List.flatMap_cons, List.length_append, ih, List.length_cons]; simp [opC]; omega
theorem opsV_at (l : List OpV) : ∀ (i : Nat) (h : i < l.length) (j : Nat), j < 5 → (opsV l)[i * 5 + j]? = (opC l[i]).toList[j]? := by
  induction l with
  | nil => intro i h; cases h
  | cons o t ih =>
    intro i h j hj
    unfold opsV at ih ⊢
    rw [List.flatMap_cons]
    cases i with
    | zero => rw [Nat.zero_mul, Nat.zero_add, List.getElem?_append_left (by simp [opC]; omega)]; rfl
    | succ i =>
      rw [List.getElem?_append_right (by simp [opC]; omega), show (i + 1) * 5 + j - (opC o).toList.length = i * 5 + j by simp [opC]; omega]
      exact ih i (by simpa using h) j hj
theorem opC_one (o : OpV) : ∀ u ∈ (opC o).toList, u.oneCell' = true := by
  intro u hu
  simp [opC] at hu
  rcases hu with rfl | rfl | rfl | rfl | rfl <;> rfl
theorem own_ops {w : World} {base : Nat} {e : TypeId} {v : Value} {n : Nat} {l : List OpV} (h : w.ownsRow base e 5 v n (opsV l)) (hs : ∀ c ∈ l, c.a.length ≤ maxLen ∧ c.b.length ≤ maxLen ∧ c.data.length ≤ maxLen) : Ops w v l := by
  have hlen := h.1
  rw [opsV_len] at hlen
  obtain rfl : n = l.length := by omega
  rcases h.2 with ⟨rfl, h0⟩ | ⟨g, cap, cur, rfl, hg, hh, hnc, hcm, hsz, htk⟩
  · have : l = [] := List.eq_nil_of_length_eq_zero h0
    subst this
    exact Ops.nil_ w
  · refine ⟨_, cap, rfl, hnc, hcm, hs, (fun h => by cases h), fun _ => ⟨g, 0, rfl, (h.lt g rfl).2, fun i hi => ?_⟩⟩
    have hc : ∀ j, j < 5 → w.cell? ⟨g, 0 + i * 5 + j, none⟩ = (opC l[i]).toList[j]? := fun j hj => by
      have c0 := h.cellAt (i * 5 + j) (by omega)
      rw [opsV_at l i hi j hj] at c0
      rw [show 0 + i * 5 + j = i * 5 + j by omega]
      exact c0
    exact ⟨hc 0 (by omega), hc 1 (by omega), hc 2 (by omega), hc 3 (by omega), hc 4 (by omega)⟩
theorem infoO20 : (Tryz.prog.info? 23).map (fun i => (i.zero, i.size, i.bytes)) = some (some (.agg (opC zeroO)), 5, 64) := by kernel_rfl
/-! ### A text, line by line -/
theorem get_end {s : List UInt8} {f p : Nat} {want : Int} {l : List OpV} (h : getO s = getR (f + 1) (s.drop p) p want l) (hw : 0 ≤ want ∧ (l.length : Int) = want) (hp : p = s.length) : getO s = (l, 0, 0) := by
  rw [h, getR, if_pos hw, if_pos (by rw [hp, List.drop_length])]
theorem get_long {s : List UInt8} {f p : Nat} {want : Int} {l : List OpV} (h : getO s = getR (f + 1) (s.drop p) p want l) (hw : 0 ≤ want ∧ (l.length : Int) = want) (hp : p < s.length) : getO s = ([], (p : Int), 12) := by
  rw [h, getR, if_pos hw, if_neg (fun c => by have := congrArg List.length c; rw [List.length_drop] at this; simp at this; omega)]
def lineP (s : List UInt8) (p e : Nat) : List UInt8 := (s.drop p).take (e - p)
theorem no10_drop {s : List UInt8} {p e : Nat} (hpe : p ≤ e) (he : e ≤ s.length) (h : ∀ j (hj : j < s.length), p ≤ j → j < e → s[j] ≠ 10) : (10 : UInt8) ∉ lineP s p e := by
  intro hm
  obtain ⟨j, hj, e2⟩ := List.getElem_of_mem hm
  unfold lineP at hj e2
  rw [List.length_take, List.length_drop] at hj
  rw [List.getElem_take, List.getElem_drop] at e2
  exact h (p + j) (by omega) (by omega) (by omega) e2
theorem cut_no {s : List UInt8} {p : Nat} (hp : p ≤ s.length) (h : ∀ j (hj : j < s.length), p ≤ j → j < s.length → s[j] ≠ 10) : cutO (s.drop p) = none := by
  have := no10_drop hp (Nat.le_refl _) h
  unfold lineP at this
  rw [List.take_of_length_le (by rw [List.length_drop]; omega)] at this
  exact cut_none this
theorem cut_yes {s : List UInt8} {p e : Nat} (hpe : p ≤ e) (he : e < s.length) (h : ∀ j (hj : j < s.length), p ≤ j → j < e → s[j] ≠ 10) (h10 : s[e] = 10) : cutO (s.drop p) = some (lineP s p e, s.drop (e + 1)) := by
  have e1 : s.drop p = lineP s p e ++ 10 :: s.drop (e + 1) := by
    unfold lineP
    conv => lhs; rw [← List.take_append_drop (e - p) (s.drop p)]
    rw [List.drop_drop, show p + (e - p) = e by omega, List.drop_eq_getElem_cons he, h10]
  rw [e1]
  exact cut_at20 _ (no10_drop hpe (by omega) h)
theorem lineP_len {s : List UInt8} {p e : Nat} (hpe : p ≤ e) (he : e ≤ s.length) : (lineP s p e).length = e - p := by
  unfold lineP
  rw [List.length_take, List.length_drop]; omega
theorem get_cutno {s : List UInt8} {f p : Nat} {want : Int} {l : List OpV} (h : getO s = getR (f + 1) (s.drop p) p want l) (hw : ¬ (0 ≤ want ∧ (l.length : Int) = want)) (hc : cutO (s.drop p) = none) : getO s = ([], (p : Int), 12) := by
  rw [h, getR, if_neg hw, hc]
theorem get_headno {s : List UInt8} {f p e : Nat} {want : Int} {l : List OpV} (h : getO s = getR (f + 1) (s.drop p) p want l) (hw : want < 0) (hc : cutO (s.drop p) = some (lineP s p e, s.drop (e + 1))) (hb : (lineP s p e).length < 6 ∨ (lineP s p e).take 5 ≠ planW ∨ numB20 ((lineP s p e).drop 5) < 0) : getO s = ([], (p : Int), 12) := by
  rw [h, getR, if_neg (fun c => by omega), hc]
  dsimp only
  rw [if_pos hw, if_pos hb]
theorem get_head {s : List UInt8} {f p e : Nat} {want : Int} {l : List OpV} (hpe : p ≤ e) (he : e ≤ s.length) (h : getO s = getR (f + 1) (s.drop p) p want l) (hw : want < 0) (hc : cutO (s.drop p) = some (lineP s p e, s.drop (e + 1))) (hb : ¬ ((lineP s p e).length < 6 ∨ (lineP s p e).take 5 ≠ planW ∨ numB20 ((lineP s p e).drop 5) < 0)) :
    getO s = getR f (s.drop (e + 1)) (e + 1) (numB20 ((lineP s p e).drop 5)) [] := by
  rw [h, getR, if_neg (fun c => by omega), hc]
  dsimp only
  rw [if_pos hw, if_neg hb, lineP_len hpe he, show p + (e - p) + 1 = e + 1 by omega]
theorem get_lineno {s : List UInt8} {f p e : Nat} {want : Int} {l : List OpV} (h : getO s = getR (f + 1) (s.drop p) p want l) (hw : ¬ want < 0) (hl : (l.length : Int) ≠ want) (hc : cutO (s.drop p) = some (lineP s p e, s.drop (e + 1))) (hb : readO (lineP s p e) = none) : getO s = ([], (p : Int), 12) := by
  rw [h, getR, if_neg (fun c => hl c.2), hc]
  dsimp only
  rw [if_neg hw, hb]
theorem get_lineat {s : List UInt8} {f p e : Nat} {want : Int} {l : List OpV} {o : OpV} (hpe : p ≤ e) (he : e ≤ s.length) (h : getO s = getR (f + 1) (s.drop p) p want l) (hw : ¬ want < 0) (hl : (l.length : Int) ≠ want) (hc : cutO (s.drop p) = some (lineP s p e, s.drop (e + 1))) (hb : readO (lineP s p e) = some o) :
    getO s = if eitherO (l ++ [o]) = true then getR f (s.drop (e + 1)) (e + 1) want (l ++ [o]) else ([], (p : Int), 12) := by
  rw [h, getR, if_neg (fun c => hl c.2), hc]
  dsimp only
  rw [if_neg hw, hb]
  dsimp only
  rw [lineP_len hpe he, show p + (e - p) + 1 = e + 1 by omega]
theorem Blk.pair {W : World} {B : Nat} {t : TypeId} {a b : Value} (h : Blk W B t #[a, b]) : W.cell? ⟨B, 0, none⟩ = some a ∧ W.cell? ⟨B, 1, none⟩ = some b := ⟨(h.cell 0).trans rfl, (h.cell 1).trans rfl⟩
theorem Blk.putPair {W : World} {B : Nat} {t : TypeId} {a b : Value} (h : Blk W B t #[a, b]) (p q : Value) :
    ∃ W', (W.setCell ⟨B, 0, none⟩ p).setCell ⟨B, 1, none⟩ q = W' ∧ Blk W' B t #[p, q] ∧ W.grownBy W' (some B) :=
  ⟨_, rfl, (h.set 0 p).set 1 q, (grownBy_set W B 0 p).trans (grownBy_set _ B 1 q)⟩

theorem line_parts {o : OpV} (h : mayO o = true) : o.a.length ≤ (lineO o).length ∧ o.b.length ≤ (lineO o).length ∧ o.data.length ≤ (lineO o).length := by
  have hk := may_kind h
  obtain ⟨_, _, m3, m4⟩ := may_none h
  have q : ∀ x : List UInt8, quoteB x ∈ lineW o → x.length ≤ (lineO o).length := fun x hx => by
    have h1 := mem_join_len hx
    have h2 := forms_ge x
    have h3 : (quoteB x).length = (formsB x).length + 2 := by simp [quoteB]
    have h4 : lineO o = joinQ (lineW o) := if_pos hk
    rw [h4]; omega
  refine ⟨q _ ?_, ?_, ?_⟩
  · simp [lineW]
  · cases hp : pairK o.kind
    · rw [m3 hp]; simp
    · exact q _ (by simp [lineW, hp])
  · by_cases h4 : o.kind = 4
    · exact q _ (by simp [lineW, h4])
    · rw [m4 h4]; simp
theorem own_ne20 {w : World} {base : Nat} {e t : TypeId} {size n : Nat} {v : Value} {xs : List Value} {B : Nat} {cs : Array Value} (h : w.ownsRow base e size v n xs) (hb : Blk w B t cs) (hne : e ≠ t) : some B ≠ v.ownBlock := by
  intro e2
  rcases h.2 with ⟨rfl, _⟩ | ⟨g, cap, cur, rfl, _, hg, _⟩
  · cases e2
  · have e3 : B = g := by
      simp [Value.ownBlock] at e2
      exact e2
    subst e3
    have := hg.symm.trans hb
    simp only [Option.some.injEq, Obj.cells.injEq] at this
    exact hne this.2.1
theorem own_far20 {w : World} {base : Nat} {e : TypeId} {size : Nat} {v : Value} {n : Nat} {xs : List Value} (h : w.ownsRow base e size v n xs) {B : Nat} (hB : B < base) : v.ownBlock = none ∨ v.ownBlock ≠ some B := by
  cases hv : v.ownBlock with
  | none => exact .inl rfl
  | some k =>
    right
    intro e
    have := (h.lt k hv).1
    have := Option.some.inj e
    omega
set_option maxHeartbeats 16000000 in
set_option maxRecDepth 100000 in
theorem refGet_any (s : List UInt8) (w : World) (hs : s.length ≤ 7000) :
    Calls Tryz.prog 18 #[.string ⟨s.toArray⟩] w fun e w' => ∃ vo, e = .returned (.tuple #[vo, .agg #[.int .i64 (getO s).2.1, .int .i64 (getO s).2.2]]) ∧ Ops w' vo (getO s).1 ∧ Below w.heap.size w w' := by
  have bR := Blk.new w 38 #[.int .i64 0, .int .i64 0]
  have hB : Below w.heap.size w (w.alloc (.cells #[.int .i64 0, .int .i64 0] 38)) := (Below.refl _ w).alloc (Nat.le_refl _) _
  obtain ⟨i0, hi, hz0, hz1, hz2⟩ := info_parts infoO20
  have HS := Lib.hid hs
  go_enter Tryz.func18, Tryz.ntmps18
  go_wp2
  clear hs
  go_loopg [4, 5, 6] (s.length + 2) (fun g s4 s5 s6 wr => ∃ (p : Nat) (want : Int) (l : List OpV), s5 = .int .i64 want ∧ s6 = .int .i64 (p : Int) ∧ p ≤ s.length ∧ s.length + 2 ≤ g + p ∧ 8 * l.length ≤ p ∧ (want < 0 → l = []) ∧ want ≤ 1073741824 ∧ Aside (getO s = getR g (s.drop p) p want l) ∧ Aside (∀ o ∈ l, mayO o = true ∧ o.a.length ≤ 100000 ∧ o.b.length ≤ 100000 ∧ o.data.length ≤ 100000) ∧ Aside (wr.ownsRow (w.heap.size + 1) 23 5 s4 l.length (opsV l)) ∧ Below w.heap.size w wr ∧ Aside (Blk wr w.heap.size 38 #[.int .i64 0, .int .i64 0]))
  case atStart => exact ⟨0, -1, [], rfl, rfl, Nat.zero_le _, by omega, by simp, fun _ => rfl, by decide, rfl, fun o h => (nomatch h), World.ownsRow_nil _ _ _ _, hB, bR⟩
  case round =>
    clear hB bR
    obtain ⟨p, want, l, rfl, rfl, hp, hpg, h8, hw0, hwm, HG, HO, HR, hbw, HB⟩ := hrel
    obtain ⟨G, rfl⟩ : ∃ G, gk = G + 1 := ⟨gk - 1, by omega⟩
    obtain ⟨aL, cL, rfl⟩ := own_sl20 HR.out
    have hB2 : Below w.heap.size w (wr.alloc (.cells #[.int .i64 (p : Int), .int .i64 12] 38)) := hbw.alloc hbw.size _
    have bF := Blk.new wr 38 #[.int .i64 (p : Int), .int .i64 12]
    have bR := HB.out.alloc (.cells #[.int .i64 (p : Int), .int .i64 12] 38)
    have hlt := HB.out.lt
    have hRw := own_keep HR.out (show Below wr.heap.size wr (wr.alloc (.cells #[.int .i64 (p : Int), .int .i64 12] 38)) from (Below.refl _ wr).alloc (Nat.le_refl _) _)
    go_upto_region 5 with fail
    generalize hwz : wr.alloc (.cells #[.int .i64 (p : Int), .int .i64 12] 38) = wz at *
    clear hwz HR HB hbw
    generalize wr.heap.size = BF at *
    have HRW := Lib.hid hRw
    have HBF := Lib.hid bF
    have HBR := Lib.hid bR
    clear hRw bF bR
    by_cases hA : 0 ≤ want ∧ (l.length : Int) = want
    · obtain ⟨hA0, rfl⟩ := hA
      obtain ⟨⟨r0, r1⟩, e0, e1⟩ := show _ ∧ _ ∧ _ from ⟨HBR.out.pair, HBR.out.frozen 0, HBR.out.frozen 1⟩
      by_cases hpe : p = s.length
      · have HN := Lib.hid (get_end HG.out ⟨hA0, rfl⟩ hpe)
        subst hpe
        obtain ⟨W', hW', hb5, hg5⟩ := HBR.out.putPair (.int .i64 0) (.int .i64 0)
        have hbl := grown_below20 hB2 hg5 (Nat.le_refl _) (Nat.le_refl _)
        have HOP := Lib.hid (own_ops (HRW.out.kept hg5 (own_far20 HRW.out (Nat.lt_succ_self _))) (fun c hc => by obtain ⟨_, h1, h2, h3⟩ := HO.out c hc; unfold maxLen; omega))
        go_wp2
        obtain ⟨y0, y1⟩ := hb5.pair
        refine bodyPost_ret (v := .tuple #[.slice aL l.length cL, .agg #[.int .i64 0, .int .i64 0]]) (by simp [results, Tryz.f18, go_sem, y0, y1]) rfl ?_
        exact ⟨_, by rw [HN.out], by rw [HN.out]; exact HOP.out, hbl⟩
      · have HN := Lib.hid (get_long HG.out ⟨hA0, rfl⟩ (by omega))
        have hpi : ((p : Int) == (s.length : Int)) = false := by rw [beq_eq_false_iff_ne]; omega
        clear r0 r1 e0 e1
        (go_upto_region 8 with fail; have bRd : Blk (World.drew wz) w.heap.size 38 #[.int .i64 0, .int .i64 0] := HBR.out; have bFd : Blk (World.drew wz) BF 38 #[.int .i64 (p : Int), .int .i64 12] := HBF.out; have hBd := (show Below w.heap.size w wz from hB2).drew; generalize hwd : World.drew wz = wd at *; obtain ⟨r0, r1⟩ := bRd.pair; have e0 := bRd.frozen 0; have e1 := bRd.frozen 1; obtain ⟨f0, f1⟩ := bFd.pair; obtain ⟨W', hW', hb5, hg5⟩ := bRd.putPair (.int .i64 (p : Int)) (.int .i64 12); have hbl := grown_below20 hBd hg5 (Nat.le_refl _) (Nat.le_refl _); go_region; all_goals go_wp2; all_goals obtain ⟨y0, y1⟩ := hb5.pair; all_goals refine bodyPost_ret (v := .tuple #[.slice none 0 0, .agg #[.int .i64 (p : Int), .int .i64 12]]) (by simp [results, Tryz.f18, go_sem, y0, y1]) rfl ?_; all_goals exact ⟨.slice none 0 0, by rw [HN.out], by rw [HN.out]; exact Ops.nil_ _, hbl⟩)
    have hgd : (decide (0 ≤ want) && ((l.length : Int) == want)) = false := by
      rw [Bool.eq_false_iff]
      intro c
      rw [Bool.and_eq_true, decide_eq_true_eq, beq_iff_eq] at c
      exact hA c
    have hln : 0 ≤ want → (l.length : Int) ≠ want := fun h c => hA ⟨h, c⟩
    have HLN := Lib.hid hln
    have HA := Lib.hid hA
    clear hln hA
    have h7 := HS.out
    by_cases hwn : want < 0
    · have hge : ¬ (0 : Int) ≤ want := by omega
      have hl0 := hw0 hwn
      subst hl0
      (go_wp2; go_loop [8] (fun s8 => ∃ e : Nat, p ≤ e ∧ e ≤ s.length ∧ s8 = .int .i64 (e : Int) ∧ Aside (∀ j (hj : j < s.length), p ≤ j → j < e → s[j] ≠ 10)) (fun s8 => s.length - (intOf s8).toNat))
      case atStart => exact ⟨p, Nat.le_refl _, hp, rfl, fun j _ h1 h2 => by omega⟩
      case round =>
        obtain ⟨e, hpe, hes, rfl, HJ⟩ := hrel
        have h7 := HS.out
        by_cases hel : e < s.length
        rotate_left
        · obtain rfl : e = s.length := by omega
          have HN := Lib.hid (get_cutno HG.out HA.out (cut_no hp HJ.out))
          have hei : ¬ (s.length : Int) < (s.length : Int) := by omega
          (go_upto_region 13 with fail; have bRd : Blk (World.drew wz) w.heap.size 38 #[.int .i64 0, .int .i64 0] := HBR.out; have bFd : Blk (World.drew wz) BF 38 #[.int .i64 (p : Int), .int .i64 12] := HBF.out; have hBd := (show Below w.heap.size w wz from hB2).drew; generalize hwd : World.drew wz = wd at *; obtain ⟨r0, r1⟩ := bRd.pair; have e0 := bRd.frozen 0; have e1 := bRd.frozen 1; obtain ⟨f0, f1⟩ := bFd.pair; obtain ⟨W', hW', hb5, hg5⟩ := bRd.putPair (.int .i64 (p : Int)) (.int .i64 12); have hbl := grown_below20 hBd hg5 (Nat.le_refl _) (Nat.le_refl _); go_region; all_goals go_wp2; all_goals obtain ⟨y0, y1⟩ := hb5.pair; all_goals refine bodyPost_ret (v := .tuple #[.slice none 0 0, .agg #[.int .i64 (p : Int), .int .i64 12]]) (by simp [results, Tryz.f18, go_sem, y0, y1]) rfl ?_; all_goals exact ⟨.slice none 0 0, by rw [HN.out], by rw [HN.out]; exact Ops.nil_ _, hbl⟩)
        have he0 : (0 : Int) ≤ (e : Int) := by omega
        have hei : (e : Int) < (s.length : Int) := by omega
        cases h10 : ((s[e].toNat : Int) != 10)
        rotate_left
        · have HJ2 : Hid (∀ j (hj : j < s.length), p ≤ j → j < e + 1 → s[j] ≠ 10) := Lib.hid (fun j hj h1 h2 => by
            rcases Nat.lt_or_ge j e with h' | h'
            · exact HJ.out j hj h1 h'
            · obtain rfl : j = e := by omega
              intro c
              rw [c] at h10
              exact absurd h10 (by decide))
          go_wp2
          go_round
          case rel => exact ⟨e + 1, by omega, by omega, by go_num, HJ2.out⟩
          case measure => simp [intOf]; omega
        have hs10 : s[e] = 10 := by simp at h10; exact UInt8.toNat_inj.1 (by simp; omega)
        have HCUT := Lib.hid (cut_yes hpe hel HJ.out hs10)
        have HPE := Lib.hid (lineP_len hpe hes)
        have hexq : (ByteArray.mk s.toArray).extract p e = ⟨(lineP s p e).toArray⟩ := by rw [ByteArray.extract_mk]; rfl
        have hpi0 : (0 : Int) ≤ (p : Int) := by omega
        have hpi1 : (p : Int) ≤ (e : Int) := by omega
        have hpi2 : (e : Int) ≤ (s.length : Int) := by omega
        have hne : ((e : Int) == (s.length : Int)) = false := by rw [beq_eq_false_iff_ne]; omega
        clear hs10 HJ
        have HHN := Lib.hid (fun h => get_headno HG.out hwn HCUT.out h)
        have HHY := Lib.hid (fun h => get_head hpe hes HG.out hwn HCUT.out h)
        go_upto_region 15 with fail
        clear hexq
        generalize lineP s p e = L at *
        have hLl : L.length = e - p := HPE.out
        by_cases h6 : L.length < 6
        · have HN := Lib.hid (HHN.out (.inl h6))
          have h6i : (L.length : Int) < 6 := by omega
          clear HHN HHY HCUT
          (go_upto_region 17 with fail; have bRd : Blk (World.drew wz) w.heap.size 38 #[.int .i64 0, .int .i64 0] := HBR.out; have bFd : Blk (World.drew wz) BF 38 #[.int .i64 (p : Int), .int .i64 12] := HBF.out; have hBd := (show Below w.heap.size w wz from hB2).drew; generalize hwd : World.drew wz = wd at *; obtain ⟨r0, r1⟩ := bRd.pair; have e0 := bRd.frozen 0; have e1 := bRd.frozen 1; obtain ⟨f0, f1⟩ := bFd.pair; obtain ⟨W', hW', hb5, hg5⟩ := bRd.putPair (.int .i64 (p : Int)) (.int .i64 12); have hbl := grown_below20 hBd hg5 (Nat.le_refl _) (Nat.le_refl _); go_region; all_goals go_wp2; all_goals obtain ⟨y0, y1⟩ := hb5.pair; all_goals refine bodyPost_ret (v := .tuple #[.slice none 0 0, .agg #[.int .i64 (p : Int), .int .i64 12]]) (by simp [results, Tryz.f18, go_sem, y0, y1]) rfl ?_; all_goals exact ⟨.slice none 0 0, by rw [HN.out], by rw [HN.out]; exact Ops.nil_ _, hbl⟩)
        have h6i : ¬ (L.length : Int) < 6 := by omega
        obtain ⟨L5, hL5⟩ : ∃ x, x = L.take 5 := ⟨_, rfl⟩
        obtain ⟨L6, hL6⟩ : ∃ x, x = L.drop 5 := ⟨_, rfl⟩
        have hx5 : List.take 5 L = L5 := hL5.symm
        have hx6 : List.take (L.length - 5) (List.drop 5 L) = L6 := by rw [hL6]; exact List.take_of_length_le (by rw [List.length_drop]; omega)
        have h5i : (5 : Int) ≤ (L.length : Int) := by omega
        have hL6l : L6.length ≤ 1000000 := by rw [hL6, List.length_drop]; omega
        rw [← hL5, ← hL6] at HHN HHY
        have HH6 := Lib.hid h6
        clear h6 hL5 hL6 hLl
        cases ht : (L5 == [112, 108, 97, 110, 32])
        · have HN := Lib.hid (HHN.out (.inr (.inl (by intro c; rw [c] at ht; exact absurd ht (by decide)))))
          clear HHN HHY HCUT
          (go_upto_region 17 with fail; have bRd : Blk (World.drew wz) w.heap.size 38 #[.int .i64 0, .int .i64 0] := HBR.out; have bFd : Blk (World.drew wz) BF 38 #[.int .i64 (p : Int), .int .i64 12] := HBF.out; have hBd := (show Below w.heap.size w wz from hB2).drew; generalize hwd : World.drew wz = wd at *; obtain ⟨r0, r1⟩ := bRd.pair; have e0 := bRd.frozen 0; have e1 := bRd.frozen 1; obtain ⟨f0, f1⟩ := bFd.pair; obtain ⟨W', hW', hb5, hg5⟩ := bRd.putPair (.int .i64 (p : Int)) (.int .i64 12); have hbl := grown_below20 hBd hg5 (Nat.le_refl _) (Nat.le_refl _); go_region; all_goals go_wp2; all_goals obtain ⟨y0, y1⟩ := hb5.pair; all_goals refine bodyPost_ret (v := .tuple #[.slice none 0 0, .agg #[.int .i64 (p : Int), .int .i64 12]]) (by simp [results, Tryz.f18, go_sem, y0, y1]) rfl ?_; all_goals exact ⟨.slice none 0 0, by rw [HN.out], by rw [HN.out]; exact Ops.nil_ _, hbl⟩)
        have HTP : Hid (L5 = planW) := Lib.hid (by simpa [planW] using ht)
        have hNm := fun W => refNum_any L6 W hL6l
        have hnb := num_bounds L6
        go_wp2_with fail
        refine (hNm _).mono ?_
        rintro e5 w5 ⟨rfl, b5⟩
        have hB5 := hB2.trans (b5.mono hB2.size)
        have bR5 := HBR.out.next b5
        have bF5 := HBF.out.next b5
        have rW5 := own_keep HRW.out b5
        generalize numB20 L6 = nb at *
        by_cases hnn : nb < 0
        · have HN := Lib.hid (HHN.out (.inr (.inr hnn)))
          clear HHN HHY HCUT
          (go_upto_region 17 with fail; have bRd : Blk (World.drew w5) w.heap.size 38 #[.int .i64 0, .int .i64 0] := bR5; have bFd : Blk (World.drew w5) BF 38 #[.int .i64 (p : Int), .int .i64 12] := bF5; have hBd := (show Below w.heap.size w w5 from hB5).drew; generalize hwd : World.drew w5 = wd at *; obtain ⟨r0, r1⟩ := bRd.pair; have e0 := bRd.frozen 0; have e1 := bRd.frozen 1; obtain ⟨f0, f1⟩ := bFd.pair; obtain ⟨W', hW', hb5, hg5⟩ := bRd.putPair (.int .i64 (p : Int)) (.int .i64 12); have hbl := grown_below20 hBd hg5 (Nat.le_refl _) (Nat.le_refl _); go_region; all_goals go_wp2; all_goals obtain ⟨y0, y1⟩ := hb5.pair; all_goals refine bodyPost_ret (v := .tuple #[.slice none 0 0, .agg #[.int .i64 (p : Int), .int .i64 12]]) (by simp [results, Tryz.f18, go_sem, y0, y1]) rfl ?_; all_goals exact ⟨.slice none 0 0, by rw [HN.out], by rw [HN.out]; exact Ops.nil_ _, hbl⟩)
        have HN2 := Lib.hid (HHY.out (fun c => by
          rcases c with c | c | c
          · exact HH6.out c
          · exact c HTP.out
          · exact hnn c))
        clear HHN HHY HCUT
        go_wp2_with fail
        refine (hNm _).mono ?_
        rintro e6 w6 ⟨rfl, b6⟩
        have hB6 := hB5.trans (b6.mono hB5.size)
        have bR6 := bR5.next b6
        have rW6 := own_keep rW5 b6
        have he1 : IntKind.i64.wrap ((e : Int) + 1) = (e : Int) + 1 := by rw [IntKind.wrap_i64]; omega
        go_wp2
        go_roundg G
        case rel => exact ⟨e + 1, nb, [], rfl, by go_num, by omega, by omega, by simp, fun _ => rfl, hnb.2, HN2.out, fun o h => (nomatch h), rW6, hB6, bR6⟩
        case measure => omega
    · have hge : (0 : Int) ≤ want := by omega
      have hlw : ((l.length : Int) == want) = false := by rw [beq_eq_false_iff_ne]; exact HLN.out hge
      (go_wp2; go_loop [8] (fun s8 => ∃ e : Nat, p ≤ e ∧ e ≤ s.length ∧ s8 = .int .i64 (e : Int) ∧ Aside (∀ j (hj : j < s.length), p ≤ j → j < e → s[j] ≠ 10)) (fun s8 => s.length - (intOf s8).toNat))
      case atStart => exact ⟨p, Nat.le_refl _, hp, rfl, fun j _ h1 h2 => by omega⟩
      case round =>
        obtain ⟨e, hpe, hes, rfl, HJ⟩ := hrel
        have h7 := HS.out
        by_cases hel : e < s.length
        rotate_left
        · obtain rfl : e = s.length := by omega
          have HN := Lib.hid (get_cutno HG.out HA.out (cut_no hp HJ.out))
          have hei : ¬ (s.length : Int) < (s.length : Int) := by omega
          (go_upto_region 13 with fail; have bRd : Blk (World.drew wz) w.heap.size 38 #[.int .i64 0, .int .i64 0] := HBR.out; have bFd : Blk (World.drew wz) BF 38 #[.int .i64 (p : Int), .int .i64 12] := HBF.out; have hBd := (show Below w.heap.size w wz from hB2).drew; generalize hwd : World.drew wz = wd at *; obtain ⟨r0, r1⟩ := bRd.pair; have e0 := bRd.frozen 0; have e1 := bRd.frozen 1; obtain ⟨f0, f1⟩ := bFd.pair; obtain ⟨W', hW', hb5, hg5⟩ := bRd.putPair (.int .i64 (p : Int)) (.int .i64 12); have hbl := grown_below20 hBd hg5 (Nat.le_refl _) (Nat.le_refl _); go_region; all_goals go_wp2; all_goals obtain ⟨y0, y1⟩ := hb5.pair; all_goals refine bodyPost_ret (v := .tuple #[.slice none 0 0, .agg #[.int .i64 (p : Int), .int .i64 12]]) (by simp [results, Tryz.f18, go_sem, y0, y1]) rfl ?_; all_goals exact ⟨.slice none 0 0, by rw [HN.out], by rw [HN.out]; exact Ops.nil_ _, hbl⟩)
        have he0 : (0 : Int) ≤ (e : Int) := by omega
        have hei : (e : Int) < (s.length : Int) := by omega
        cases h10 : ((s[e].toNat : Int) != 10)
        rotate_left
        · have HJ2 : Hid (∀ j (hj : j < s.length), p ≤ j → j < e + 1 → s[j] ≠ 10) := Lib.hid (fun j hj h1 h2 => by
            rcases Nat.lt_or_ge j e with h' | h'
            · exact HJ.out j hj h1 h'
            · obtain rfl : j = e := by omega
              intro c
              rw [c] at h10
              exact absurd h10 (by decide))
          go_wp2
          go_round
          case rel => exact ⟨e + 1, by omega, by omega, by go_num, HJ2.out⟩
          case measure => simp [intOf]; omega
        have hs10 : s[e] = 10 := by simp at h10; exact UInt8.toNat_inj.1 (by simp; omega)
        have HCUT := Lib.hid (cut_yes hpe hel HJ.out hs10)
        have HPE := Lib.hid (lineP_len hpe hes)
        have hexq : (ByteArray.mk s.toArray).extract p e = ⟨(lineP s p e).toArray⟩ := by rw [ByteArray.extract_mk]; rfl
        have hpi0 : (0 : Int) ≤ (p : Int) := by omega
        have hpi1 : (p : Int) ≤ (e : Int) := by omega
        have hpi2 : (e : Int) ≤ (s.length : Int) := by omega
        have hne : ((e : Int) == (s.length : Int)) = false := by rw [beq_eq_false_iff_ne]; omega
        clear hs10 HJ
        have HHN := Lib.hid (fun h => get_lineno HG.out (by omega) (HLN.out hge) HCUT.out h)
        have HHY := Lib.hid (fun (o : OpV) (h : readO (lineP s p e) = some o) => get_lineat hpe hes HG.out (by omega) (HLN.out hge) HCUT.out h)
        go_upto_region 15 with fail
        clear hexq
        generalize lineP s p e = L at *
        have hLl : L.length = e - p := HPE.out
        have hRd := refRead20_any L wz (by omega)
        go_wp2_with fail
        refine hRd.mono ?_
        rintro e5 w5 ⟨rfl, b5⟩
        have HPL := Lib.hid hLl
        have HGE := Lib.hid hge
        clear hLl hRd
        have hq5 := b5.trans (((Below.refl w5.heap.size w5).alloc (Nat.le_refl _) (.cells (opC ((readO L).getD zeroO)) 23)).mono b5.size)
        have bO := Blk.new w5 23 (opC ((readO L).getD zeroO))
        have hB6 := hB2.trans (hq5.mono hB2.size)
        have bR6 := HBR.out.next hq5
        have bF6 := HBF.out.next hq5
        have rW6 := own_keep HRW.out hq5
        have hsz6 := bR6.lt
        have hlt6 := bF6.lt
        have hBFlt : w.heap.size < BF := hlt
        go_upto_region 20 with fail
        generalize hwy : w5.alloc (.cells (opC ((readO L).getD zeroO)) 23) = wy at *
        clear hwy b5 hq5
        generalize w5.heap.size = BO at *
        have hl900 : l.length ≤ 900 := by have := HS.out; omega
        obtain ⟨p0, p1, p2, p3, p4⟩ := bO.five
        cases hro : readO L with
        | none =>
          have HN := Lib.hid (HHN.out hro)
          rw [hro] at p0 p1 p2 p3 p4
          dsimp only [Option.getD_none, Option.isSome_none, zeroO] at p0 p1 p2 p3 p4 ⊢
          clear HHN HHY HCUT bO
          (go_wp2_with (at_builtin; refine wpList_append_near rfl (.tmp 76) (.tmp 78) 26 23 rfl Tryz.underlying26 hi hz0 hz1 hz2 rfl (by decide) (by decide) (w.heap.size + 1) (opC zeroO) 1 rfl rfl rW6 rfl (opC_one _) (by omega) hsz6 ?_; intro v7 w7 hown7 hg7); have bR7 := (bR6.alloc (.cells (opC zeroO) 23)).kept hg7 (own_ne20 rW6 bR6 (by decide)); have bF7 := (bF6.alloc (.cells (opC zeroO) 23)).kept hg7 (own_ne20 rW6 bF6 (by decide)); have hB7 : Below w.heap.size w w7 := (hB6.alloc hB6.size (.cells (opC zeroO) 23)).grown hg7 (by have := hB6.size; simp; omega) (fun g hg => Nat.le_of_succ_le (rW6.lt g hg).1); clear hg7 bR6 bF6 hB6 rW6 hsz6 hlt6)
          (go_upto_region 22 with fail; have bRd : Blk (World.drew w7) w.heap.size 38 #[.int .i64 0, .int .i64 0] := bR7; have bFd : Blk (World.drew w7) BF 38 #[.int .i64 (p : Int), .int .i64 12] := bF7; have hBd := (show Below w.heap.size w w7 from hB7).drew; generalize hwd : World.drew w7 = wd at *; obtain ⟨r0, r1⟩ := bRd.pair; have e0 := bRd.frozen 0; have e1 := bRd.frozen 1; obtain ⟨f0, f1⟩ := bFd.pair; obtain ⟨W', hW', hb5, hg5⟩ := bRd.putPair (.int .i64 (p : Int)) (.int .i64 12); have hbl := grown_below20 hBd hg5 (Nat.le_refl _) (Nat.le_refl _); go_region; all_goals go_wp2; all_goals obtain ⟨y0, y1⟩ := hb5.pair; all_goals refine bodyPost_ret (v := .tuple #[.slice none 0 0, .agg #[.int .i64 (p : Int), .int .i64 12]]) (by simp [results, Tryz.f18, go_sem, y0, y1]) rfl ?_; all_goals exact ⟨.slice none 0 0, by rw [HN.out], by rw [HN.out]; exact Ops.nil_ _, hbl⟩)
        | some o =>
          obtain ⟨hmay, hline⟩ := (read_iff L o).1 hro
          have hle := HHY.out o hro
          have hlm := line_min hmay
          have hlp := line_parts hmay
          rw [hline] at hlm hlp
          rw [hro] at p0 p1 p2 p3 p4
          dsimp only [Option.getD_some, Option.isSome_some] at p0 p1 p2 p3 p4 ⊢
          clear HHN HHY HCUT bO
          have HLM : Hid (8 ≤ e - p) := Lib.hid (by have := HPL.out; omega)
          have HLP : Hid (o.a.length ≤ 100000 ∧ o.b.length ≤ 100000 ∧ o.data.length ≤ 100000) := Lib.hid (by have := HPL.out; omega)
          clear hlm hlp hline hro
          have HLE := Lib.hid hle
          have HO2 : Hid (∀ c ∈ l ++ [o], mayO c = true ∧ c.a.length ≤ 100000 ∧ c.b.length ≤ 100000 ∧ c.data.length ≤ 100000) := Lib.hid (fun c hc => by
            rcases List.mem_append.1 hc with hc | hc
            · exact HO.out c hc
            · rw [List.mem_singleton.1 hc]; exact ⟨hmay, HLP.out⟩)
          clear hle hmay
          obtain ⟨ok, os, oa, ob, od⟩ := o
          dsimp only at p0 p1 p2 p3 p4
          (go_wp2_with (at_builtin; refine wpList_append_near rfl (.tmp 76) (.tmp 78) 26 23 rfl Tryz.underlying26 hi hz0 hz1 hz2 rfl (by decide) (by decide) (w.heap.size + 1) (opC ⟨ok, os, oa, ob, od⟩) 1 rfl rfl rW6 rfl (opC_one _) (by omega) hsz6 ?_; intro v7 w7 hown7 hg7); have bR7 := (bR6.alloc (.cells (opC ⟨ok, os, oa, ob, od⟩) 23)).kept hg7 (own_ne20 rW6 bR6 (by decide)); have bF7 := (bF6.alloc (.cells (opC ⟨ok, os, oa, ob, od⟩) 23)).kept hg7 (own_ne20 rW6 bF6 (by decide)); have hB7 : Below w.heap.size w w7 := (hB6.alloc hB6.size (.cells (opC ⟨ok, os, oa, ob, od⟩) 23)).grown hg7 (by have := hB6.size; simp; omega) (fun g hg => Nat.le_of_succ_le (rW6.lt g hg).1); clear hg7 bR6 bF6 hB6 rW6 hsz6 hlt6)
          have HR7 : Hid (w7.ownsRow (w.heap.size + 1) 23 5 v7 (l ++ [(⟨ok, os, oa, ob, od⟩ : OpV)]).length (opsV (l ++ [(⟨ok, os, oa, ob, od⟩ : OpV)]))) := Lib.hid (by simpa [opsV] using hown7)
          have hop := own_ops HR7.out (fun c hc => by obtain ⟨_, h1, h2, h3⟩ := HO2.out c hc; unfold maxLen; omega)
          have hl9 : (l ++ [(⟨ok, os, oa, ob, od⟩ : OpV)]).length ≤ 1000 := by simp; omega
          have h8' : 8 * (l ++ [(⟨ok, os, oa, ob, od⟩ : OpV)]).length ≤ e + 1 := by have := HLM.out; simp; omega
          generalize (l ++ [(⟨ok, os, oa, ob, od⟩ : OpV)]) = l2 at *
          have hPl := refPlan_any l2 v7 w7 hop hl9 (fun c hc => (HO2.out c hc).2)
          have hUn := fun W (h : Below w7.heap.size w7 W) => refUndo_any l2 v7 W (hop.below h) hl9 (fun c hc => (HO2.out c hc).2)
          obtain ⟨a7, c7, rfl⟩ := ops_slice hop
          clear hop hown7 p0 p1 p2 p3 p4
          have he1 : IntKind.i64.wrap ((e : Int) + 1) = (e : Int) + 1 := by rw [IntKind.wrap_i64]; omega
          go_wp2_with fail
          refine hPl.mono ?_
          rintro e8 w8 ⟨rfl, b8⟩
          have bR8 := bR7.next b8
          have bF8 := bF7.next b8
          have hB8 := hB7.trans (b8.mono hB7.size)
          have hR8 := own_keep HR7.out b8
          cases hpl : planO l2
          · have hU8 := hUn w8 b8
            go_wp2_with fail
            refine hU8.mono ?_
            rintro e9 w9 ⟨rfl, b9⟩
            have bR9 := bR8.next b9
            have bF9 := bF8.next b9
            have hB9 := hB8.trans (b9.mono hB8.size)
            have hR9 := own_keep hR8 b9
            cases hul : undoO l2
            · have HN : Hid (getO s = ([], (p : Int), 12)) := Lib.hid (by rw [HLE.out, if_neg (by unfold eitherO; rw [hpl, hul]; simp)])
              clear hPl hUn hU8 HLE
              (go_upto_region 22 with fail; have bRd : Blk (World.drew w9) w.heap.size 38 #[.int .i64 0, .int .i64 0] := bR9; have bFd : Blk (World.drew w9) BF 38 #[.int .i64 (p : Int), .int .i64 12] := bF9; have hBd := (show Below w.heap.size w w9 from hB9).drew; generalize hwd : World.drew w9 = wd at *; obtain ⟨r0, r1⟩ := bRd.pair; have e0 := bRd.frozen 0; have e1 := bRd.frozen 1; obtain ⟨f0, f1⟩ := bFd.pair; obtain ⟨W', hW', hb5, hg5⟩ := bRd.putPair (.int .i64 (p : Int)) (.int .i64 12); have hbl := grown_below20 hBd hg5 (Nat.le_refl _) (Nat.le_refl _); go_region; all_goals go_wp2; all_goals obtain ⟨y0, y1⟩ := hb5.pair; all_goals refine bodyPost_ret (v := .tuple #[.slice none 0 0, .agg #[.int .i64 (p : Int), .int .i64 12]]) (by simp [results, Tryz.f18, go_sem, y0, y1]) rfl ?_; all_goals exact ⟨.slice none 0 0, by rw [HN.out], by rw [HN.out]; exact Ops.nil_ _, hbl⟩)
            · have HN := Lib.hid (HLE.out.trans (if_pos (by unfold eitherO; rw [hpl, hul]; rfl)))
              clear hPl hUn hU8 HLE
              go_wp2
              go_roundg G
              case rel => exact ⟨e + 1, want, l2, rfl, by go_num, by omega, by omega, h8', fun h => by have := HGE.out; omega, hwm, HN.out, HO2.out, hR9, hB9, bR9⟩
              case measure => omega
          · have HN := Lib.hid (HLE.out.trans (if_pos (by unfold eitherO; rw [hpl]; rfl)))
            clear hPl hUn HLE
            go_wp2
            go_roundg G
            case rel => exact ⟨e + 1, want, l2, rfl, by go_num, by omega, by omega, h8', fun h => by have := HGE.out; omega, hwm, HN.out, HO2.out, hR8, hB8, bR8⟩
            case measure => omega
end Go.Proofs.YtolbhjjcabiabaaGreatDoor
