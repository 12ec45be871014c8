import Derived.Test.YtboceckeebhfoaaDoorQMWalkA01
import Derived.Deep.RegionHeld3
import Derived.Deep.CutRange
set_option linter.unusedVariables false
set_option linter.unusedSimpArgs false
/- Walks: the document's Read. -/
set_option linter.unusedVariables false
set_option linter.unusedSimpArgs false
namespace Go.Proofs.YtboceckeebhfoaaDoor
open Go.RowKit

theorem infoS17 : (Tryd.prog.info? 9).map (fun i => (i.zero, i.size, i.bytes)) = some (some (.string ⟨#[]⟩), 1, 16) := by kernel_rfl
theorem strsV_one17 (l : List (List UInt8)) : ∀ u ∈ strsV l, u.oneCell' = true := by
  intro u hu
  obtain ⟨x, _, rfl⟩ := List.mem_map.1 hu
  rfl
/-- 'append([]string(nil), x...)' of a slice that reads so. -/
theorem append_src17 (ty : TypeId) (w : World) (ad : Addr) (m c : Nat) (l : List (List UInt8)) (hl : l.length ≤ 1000000) (hm : l.length = m) (hc : ∀ j u, (strsV l)[j]? = some u → w.cell? (ad.add j) = some u) :
    ∃ v' w', (Builtin.append_ #[22, 22] ty #[.slice none 0 0, .slice (some ad) m c]).run Tryd.prog w = .ok v' w' ∧ w'.ownsRow w.heap.size 9 1 v' l.length (strsV l) ∧ Below w.heap.size w w' := by
  obtain ⟨is, hsi, hs0, hs1, hs2⟩ := info_parts infoS17
  obtain ⟨v', w', hr, r1, r2, _⟩ := run_append_own (P := Tryd.prog) w w.heap.size 22 ty 9 is (.string ⟨#[]⟩) 1 16 Tryd.underlying22 hsi hs0 hs1 hs2 rfl (by decide) (.slice none 0 0) 0 [] (World.ownsRow_nil _ _ _ _) ad m c (strsV l)
    (by rw [strsV, List.length_map, hm, Nat.mul_one]) hc (fun u hu => by obtain ⟨_, _, rfl⟩ := List.mem_map.1 hu; rfl) (by unfold maxLen; omega) (by omega) (Nat.le_refl _)
  subst hm
  exact ⟨v', w', hr, by simpa using r1, (Below.refl w.heap.size w).grown r2 (Nat.le_refl _) (fun k hk => by cases hk)⟩
theorem own_sl17 {w : World} {base : Nat} {e : TypeId} {size : Nat} {v : Value} {n : Nat} {xs : List Value} (h : w.ownsRow base e size v n xs) : ∃ a c, v = .slice a n c := by
  rcases h.2 with ⟨rfl, rfl⟩ | ⟨g, cap, cur, rfl, _⟩
  · exact ⟨_, _, rfl⟩
  · exact ⟨_, _, rfl⟩
theorem own_far17 {w : World} {base : Nat} {e : TypeId} {size : Nat} {v : Value} {n : Nat} {xs : List Value} (h : w.ownsRow base e size v n xs) {B : Nat} (hB : B < base) : v.ownBlock = none ∨ v.ownBlock ≠ some B := by
  cases hv : v.ownBlock with
  | none => exact .inl rfl
  | some k =>
    right
    intro e
    have := (h.lt k hv).1
    have := Option.some.inj e
    omega
theorem own_base17 {w : World} {base base' : Nat} {e : TypeId} {size : Nat} {v : Value} {n : Nat} {xs : List Value} (h : w.ownsRow base e size v n xs) (hb : base' ≤ base) : w.ownsRow base' e size v n xs :=
  ⟨h.1, h.2.imp id fun ⟨g, cap, cur, hv, hg, r⟩ => ⟨g, cap, cur, hv, Nat.le_trans hb hg, r⟩⟩
theorem own_keep17 {w w' : World} {base : Nat} {e : TypeId} {size : Nat} {v : Value} {n : Nat} {xs : List Value} (h : w.ownsRow base e size v n xs) (hB : Below w.heap.size w w') : w'.ownsRow base e size v n xs := by
  refine ⟨h.1, ?_⟩
  rcases h.2 with h2 | ⟨g, cap, cur, hv, hg, hh, r⟩
  · exact .inl h2
  · exact .inr ⟨g, cap, cur, hv, hg, (hB.block g (Array.getElem?_eq_some_iff.1 hh).1).trans hh, r⟩
/-- A row of texts that is the call's own: where its elements lie. -/
theorem own_at17 {w : World} {base : Nat} {e : TypeId} {a : Option Addr} {c : Nat} {L : List (List UInt8)} (h : w.ownsRow base e 1 (.slice a L.length c) L.length (strsV L)) (h0 : 0 < L.length) : ∃ g, a = some ⟨g, 0, none⟩ ∧ base ≤ g ∧ g < w.heap.size ∧ ∀ j (hj : j < L.length), w.cell? ⟨g, j, none⟩ = some (.string ⟨L[j].toArray⟩) := by
  rcases h.2 with ⟨_, h2⟩ | ⟨g, cap, cur, hv, hg, hh, _⟩
  · omega
  · simp only [Value.slice.injEq] at hv
    obtain ⟨rfl, _, rfl⟩ := hv
    refine ⟨g, rfl, hg, (Array.getElem?_eq_some_iff.1 hh).1, fun j hj => ?_⟩
    have := h.cells (g := g) rfl j (.string ⟨L[j].toArray⟩) (by simp [strsV, hj])
    rw [Addr.add_lit, Nat.zero_add] at this
    exact this
theorem ops_ok {k : Int} {w o : List UInt8} {ops : List (List UInt8)} (h1 : ¬ (ops = [] ∧ ¬ (k = 2 ∧ inB o 102 = true))) (h2 : ¬ (ops ≠ [] ∧ ops.length < leastF k o)) (h3 : ¬ (2 < ops.length ∧ inB o 84 = true)) : opsF k w o ops = (⟨k, o, ops⟩, []) := by
  unfold inB at h1 h3
  unfold opsF
  rw [if_neg h1, if_neg h2, if_neg h3]
theorem ops_none {k : Int} {w o : List UInt8} {ops : List (List UInt8)} (h1 : ops = [] ∧ ¬ (k = 2 ∧ inB o 102 = true)) : opsF k w o ops = (noC, w ++ sOperand) := by
  unfold inB at h1
  unfold opsF
  rw [if_pos h1]
theorem ops_few {k : Int} {w o y : List UInt8} {ops : List (List UInt8)} {M : Nat} (h1 : ops.length = M + 1) (h2 : ops.length < leastF k o) (hy : ops[M]? = some y) : opsF k w o ops = (noC, w ++ sDest ++ quoteB y) := by
  have hne : ops ≠ [] := fun c => by rw [c] at h1; simp at h1
  have hl : ops.getLastD [] = y := by
    rw [List.getLastD_eq_getLast?, List.getLast?_eq_getElem?, h1, Nat.add_sub_cancel, hy]; rfl
  unfold opsF
  rw [if_neg (fun c => hne c.1), if_pos ⟨hne, h2⟩, hl]
theorem ops_more {k : Int} {w o y : List UInt8} {ops : List (List UInt8)} (h1 : 2 < ops.length) (h2 : ¬ ops.length < leastF k o) (h3 : inB o 84 = true) (hy : ops[2]? = some y) : opsF k w o ops = (noC, w ++ sExtra ++ quoteB y) := by
  have hne : ops ≠ [] := fun c => by rw [c] at h1; simp at h1
  unfold inB at h3
  have hl : ops.getD 2 [] = y := by rw [List.getD_eq_getElem?_getD, hy]; rfl
  unfold opsF
  rw [if_neg (fun c => hne c.1), if_neg (fun c => h2 c.2), if_pos ⟨h1, h3⟩, hl]
theorem least_is (k : Int) (o : List UInt8) : leastF k o = if (decide (4 ≤ k) || inB o 84) = true then 2 else 1 := by
  unfold leastF inB
  simp only [Bool.or_eq_true, decide_eq_true_eq]
def kindTo (w : List UInt8) (m : Nat) : Int := if kindF w < (m : Int) then kindF w else 0
theorem kindF_pos (w : List UInt8) : 0 ≤ kindF w ∧ kindF w ≤ 5 := by rcases kind_cases w with h | h | h | h | h | h <;> rw [h] <;> decide
theorem kindTo_one (w : List UInt8) : kindTo w 1 = 0 := by
  have := kindF_pos w
  unfold kindTo
  split <;> omega
theorem kindTo_six (w : List UInt8) : kindTo w 6 = kindF w := by
  have := kindF_pos w
  unfold kindTo
  rw [if_pos (by omega)]
theorem name_iff {k : Nat} (h1 : 1 ≤ k) (h2 : k ≤ 5) (w : List UInt8) : nameK k = w ↔ kindF w = k := by
  constructor
  · rintro rfl; exact kind_name (by omega) (by omega)
  · intro h; rw [← h]; exact name_kind (by omega)
theorem kindTo_yes {k : Nat} (h1 : 1 ≤ k) (h2 : k ≤ 5) {w : List UInt8} (h : (nameK k == w) = true) : kindTo w (k + 1) = k := by
  have := (name_iff h1 h2 w).1 (by simpa using h)
  unfold kindTo
  rw [if_pos (by omega), this]
theorem kindTo_no {k : Nat} (h1 : 1 ≤ k) (h2 : k ≤ 5) {w : List UInt8} (h : (nameK k == w) = false) : kindTo w (k + 1) = kindTo w k := by
  have hn : kindF w ≠ k := fun c => by
    rw [(name_iff h1 h2 w).2 c] at h
    simp at h
  unfold kindTo
  by_cases c : kindF w < (k : Int)
  · rw [if_pos c, if_pos (by omega)]
  · rw [if_neg c, if_neg (by omega)]
theorem Blk.tri {W : World} {B : Nat} {t : TypeId} {a b c : Value} (h : Blk W B t #[a, b, c]) :
    (W.cell? ⟨B, 0, none⟩ = some a ∧ W.cell? ⟨B, 1, none⟩ = some b ∧ W.cell? ⟨B, 2, none⟩ = some c) ∧
      (W.frozen? ⟨B, 0, none⟩ = false ∧ W.frozen? ⟨B, 1, none⟩ = false ∧ W.frozen? ⟨B, 2, none⟩ = false) :=
  ⟨⟨(h.cell 0).trans rfl, (h.cell 1).trans rfl, (h.cell 2).trans rfl⟩, h.frozen 0, h.frozen 1, h.frozen 2⟩
theorem Blk.putTri {W : World} {B : Nat} {t : TypeId} {a b c : Value} (h : Blk W B t #[a, b, c]) (p q r : Value) :
    ∃ W', ((W.setCell ⟨B, 0, none⟩ p).setCell ⟨B, 1, none⟩ q).setCell ⟨B, 2, none⟩ r = W' ∧ Blk W' B t #[p, q, r] ∧ W.grownBy W' (some B) := by
  refine ⟨_, rfl, ?_, ?_⟩
  · exact ((h.set 0 p).set 1 q).set 2 r
  · exact ((grownBy_set W B 0 p).trans (grownBy_set _ B 1 q)).trans (grownBy_set _ B 2 r)
theorem grown_below {n : Nat} {w0 W W' : World} {B : Nat} (h : Below n w0 W) (hg : W.grownBy W' (some B)) (hn : n ≤ w0.heap.size) (hB : n ≤ B) : Below n w0 W' := h.grown hg (Nat.le_trans hn h.size) (fun k hk => by cases hk; exact hB)
theorem read_cons' (w : List UInt8) (t : List (List UInt8)) : readA (w :: t) = if kindF w = 0 then (noC, quoteB w ++ sUnknown)
    else if (lettersN (allK (kindF w)) t).2.2 ≠ [] then (noC, w ++ sInvalid ++ quoteB (lettersN (allK (kindF w)) t).2.2)
    else opsF (kindF w) w (optionsF (kindF w) (lettersN (allK (kindF w)) t).1) (t.drop (lettersN (allK (kindF w)) t).2.1) := rfl
theorem cat_run {P : Program} (a b : List UInt8) (h : a.length + b.length ≤ 1000000) (W : World) : (Op.stringOp .add ⟨a.toArray⟩ ⟨b.toArray⟩).run P W = .ok (.string ⟨(a ++ b).toArray⟩) W := by
  have hct : (⟨a.toArray⟩ : ByteArray) ++ ⟨b.toArray⟩ = ⟨(a ++ b).toArray⟩ := by simp [ByteArray.mk_append_mk]
  rw [← hct]
  exact run_string_add_sum W _ _ (by simp [ByteArray.size]; omega)
abbrev cmdC (c : CmdV) (v : Value) : Array Value := #[.int .i64 c.kind, .string ⟨c.opts.toArray⟩, v]

set_option maxHeartbeats 8000000 in
set_option maxRecDepth 100000 in
theorem refRead_nil (v : Value) (w : World) (hv : Strs w v []) :
    Calls Tryd.prog 11 #[v] w fun e w' => ∃ vo, e = .returned (.tuple #[.agg (cmdC (readA []).1 vo), .string ⟨(readA []).2.toArray⟩]) ∧ w'.ownsRow w.heap.size 9 1 vo (readA []).1.ops.length (strsV (readA []).1.ops) ∧ Below w.heap.size w w' := by
  obtain ⟨a, ca, rfl, hm, HA0⟩ := hv
  clear HA0
  have bR := Blk.new w 26 #[.int .i64 0, .string ⟨#[]⟩, .slice none 0 0]
  obtain ⟨⟨r0, r1, r2⟩, e0, e1, e2⟩ := bR.tri
  go_enter Tryd.func11, Tryd.ntmps11
  go_wp2
  refine bodyPost_ret (v := .tuple #[.agg #[.int .i64 0, .string ⟨#[]⟩, .slice none 0 0], .string ⟨sMissing.toArray⟩]) (by simp [results, Tryd.f11, go_sem, r0, r1, r2, sMissing]) rfl ?_
  exact ⟨_, rfl, World.ownsRow_nil _ _ _ _, below_new w _⟩

set_option maxHeartbeats 16000000 in
set_option maxRecDepth 100000 in
theorem refRead_cons (x : List UInt8) (t : List (List UInt8)) (v : Value) (w : World) (hv : Strs w v (x :: t)) (hcap : ∀ a n c, v = .slice a n c → n ≤ c) (hl : t.length ≤ 900) (he : ∀ y ∈ x :: t, y.length ≤ 1000) :
    Calls Tryd.prog 11 #[v] w fun e w' => ∃ vo, e = .returned (.tuple #[.agg (cmdC (readA (x :: t)).1 vo), .string ⟨(readA (x :: t)).2.toArray⟩]) ∧ w'.ownsRow w.heap.size 9 1 vo (readA (x :: t)).1.ops.length (strsV (readA (x :: t)).1.ops) ∧ Below w.heap.size w w' := by
  obtain ⟨a, ca, rfl, hm, HA0⟩ := hv
  obtain ⟨b, o, rfl, hb, hcl⟩ := HA0 (by simp)
  have HCAP := Lib.hid (hcap _ _ _ rfl)
  clear hcap
  clear HA0
  rw [List.length_cons] at *
  have HC := Lib.hid hcl
  have c0 : w.cell? ⟨b, o, none⟩ = some (.string ⟨x.toArray⟩) := hcl 0 (by simp)
  have hx := he x List.mem_cons_self
  have HE := Lib.hid he
  clear hcl he
  have bR := Blk.new w 26 #[.int .i64 0, .string ⟨#[]⟩, .slice none 0 0]
  have hB := below_new w (.cells #[.int .i64 0, .string ⟨#[]⟩, .slice none 0 0] 26)
  have hlb : ((t.length : Int) + 1 == 0) = false := by rw [beq_eq_false_iff_ne]; omega
  go_enter Tryd.func11, Tryd.ntmps11
  go_wp2
  (try rw [show (((t.length : Int) + 1) == 0) = false from hlb])
  clear hlb
  go_loopw [4, 5] (fun s4 s5 wr => ∃ k : Nat, 1 ≤ k ∧ k ≤ 6 ∧ s5 = .int .i64 (k : Int) ∧ s4 = .int .i64 (kindTo x k) ∧ Below w.heap.size w wr ∧ Aside (Blk wr w.heap.size 26 #[.int .i64 0, .string ⟨#[]⟩, .slice none 0 0])) (fun _ s5 _ => 6 - (intOf s5).toNat)
  case atStart => exact ⟨1, Nat.le_refl _, by omega, rfl, by rw [kindTo_one], hB, bR⟩
  case round =>
    obtain ⟨k, hk1, hk6, rfl, rfl, hbr, HR⟩ := hrel
    clear bR hB
    by_cases hk5 : k ≤ 5
    · go_upto_region 7 with fail
      (try rw [show decide ((k : Int) ≤ 5) = true from decide_eq_true (by omega)])
      go_cut [25] from 20 to 26 (fun s25 wc => s25 = .bool (nameK k == x) ∧ Below wr.heap.size wr wc)
      case first =>
        have HMK : ∀ W, Below wr.heap.size wr W → W.cell? ⟨b, o, none⟩ = some (.string ⟨x.toArray⟩) := fun W h => ((hbr.trans (h.mono hbr.size)).cell (p := ⟨b, o, none⟩) hb).trans c0
        have hq : Below wr.heap.size wr wr.drew := (Below.refl _ _).drew
        go_region_held3 (fun W => W.cell? ⟨b, o, none⟩ = some (.string ⟨x.toArray⟩))
          (first | with_reducible exact HMK _ hq)
          (first | (go_at_call 14; (with_reducible refine (refName_any _ _).mono ?_); rintro e w6 ⟨rfl, b6⟩; have hq := hq.trans (b6.mono hq.size)))
        all_goals (go_wp2_with fail; go_meet)
        all_goals exact ⟨rfl, hq⟩
      case rest =>
        obtain ⟨rfl, hbc⟩ := hcut
        have hB2 := hbr.trans (hbc.mono hbr.size)
        have bR2 := HR.out.next hbc
        cases hn : (nameK (k : Int) == x)
        · have HK := Lib.hid (kindTo_no hk1 hk5 hn)
          go_wp2
          go_roundw
          case rel => exact ⟨k + 1, by omega, by omega, by go_num, by rw [HK.out], hB2, bR2⟩
          case measure => simp [intOf]; omega
        · have HK := Lib.hid (kindTo_yes hk1 hk5 hn)
          go_wp2
          go_roundw
          case rel => exact ⟨k + 1, by omega, by omega, by go_num, by rw [HK.out], hB2, bR2⟩
          case measure => simp [intOf]; omega
    · obtain rfl : k = 6 := by omega
      rw [kindTo_six]
      clear hk1 hk6 hk5
      have bR := HR.out
      have hB0 := hbr
      have cr : wr.cell? ⟨b, o, none⟩ = some (.string ⟨x.toArray⟩) := (hbr.cell (p := ⟨b, o, none⟩) hb).trans c0
      clear c0
      by_cases hK : kindF x = 0
      · have HN : Hid (readA (x :: t) = (noC, quoteB x ++ sUnknown)) := by show _ = _; rw [read_cons', if_pos hK]
        have hkb : (kindF x == 0) = true := by rw [beq_iff_eq]; exact hK
        clear hK
        go_wp2_with fail
        refine (refQuoteK_any x _ (by omega)).mono ?_
        rintro e w2 ⟨rfl, b2⟩
        have hql := quoteB_len x
        replace bR := bR.next b2
        replace hbr := hbr.trans (b2.mono hbr.size)
        obtain ⟨⟨r0, r1, r2⟩, e0, e1, e2⟩ := bR.tri
        obtain ⟨W', hW', hb3, hg3⟩ := bR.putTri (.int .i64 0) (.string ⟨#[]⟩) (.slice none 0 0)
        have hbl := grown_below hbr hg3 (Nat.le_refl _) (Nat.le_refl _)
        go_wp2
        obtain ⟨⟨y0, y1, y2⟩, _⟩ := hb3.tri
        refine bodyPost_ret (v := .tuple #[.agg #[.int .i64 0, .string ⟨#[]⟩, .slice none 0 0], .string ⟨(quoteB x ++ sUnknown).toArray⟩]) (by simp [results, Tryd.f11, go_sem, y0, y1, y2, sUnknown]) rfl ?_
        exact ⟨.slice none 0 0, by rw [HN.out]; rfl, by rw [HN.out]; exact World.ownsRow_nil _ _ _ _, hbl⟩
      · have hk15 : 1 ≤ kindF x ∧ kindF x ≤ 5 := by have := kindF_pos x; omega
        have hTl : Strs wr (.slice (some ⟨b, o + 1, none⟩) t.length (ca - 1)) t := by
          refine ⟨_, _, rfl, by unfold maxLen; omega, fun _ => ⟨b, o + 1, rfl, Nat.lt_of_lt_of_le hb hbr.size, fun i hi => ?_⟩⟩
          have := HC.out (i + 1) (by rw [List.length_cons]; omega)
          rw [List.getElem_cons_succ] at this
          rw [← this, show o + 1 + i = o + (i + 1) by omega]
          exact hbr.cell (p := ⟨b, o + (i + 1), none⟩) hb
        have hTm : ca = 1 → Strs wr (.slice (some ⟨b, o, none⟩) t.length 0) t := fun e => by
          have := HCAP.out
          exact ⟨_, _, rfl, by unfold maxLen; omega, fun h => absurd h (by omega)⟩
        have HT := Lib.hid hTl
        have HTM := Lib.hid hTm
        have hLt := fun v' (h : Strs wr v' t) => refletters_any (kindF x) t v' wr h hk15 (by omega) (fun y hy => HE.out y (List.mem_cons_of_mem _ hy))
        have hll := letters_len (allK (kindF x)) 1000 (fun y hy => HE.out y (List.mem_cons_of_mem x hy))
        have hls : (lettersN (allK (kindF x)) t).1.length ≤ 1000000 := by have := hll.1; have h2 : t.length * 1000 ≤ 900 * 1000 := Nat.mul_le_mul_right _ hl; omega
        have hnn := hll.2.1
        have hbd := hll.2.2
        have hRd := read_cons' x t
        rw [if_neg hK] at hRd
        clear hTl hTm hll
        generalize lettersN (allK (kindF x)) t = R at *
        obtain ⟨ls, n, bad⟩ := R
        dsimp only at hLt hRd hls hnn hbd
        have hkb : (kindF x == 0) = false := by rw [beq_eq_false_iff_ne]; exact hK
        generalize kindF x = K at *
        have HRD := Lib.hid hRd
        clear hRd hK
        go_upto_region 11 with fail
        go_cut [6, 7, 8] from 36 (fun s6 s7 s8 wc => s6 = .string ⟨ls.toArray⟩ ∧ s7 = .int .i64 (n : Int) ∧ s8 = .string ⟨bad.toArray⟩ ∧ Below wr.heap.size wr wc)
        case first =>
          by_cases h1 : ca = 1
          · have hq := hLt _ (HTM.out h1)
            subst h1
            clear hLt
            go_wp2_with fail
            refine hq.mono ?_
            rintro e w2 ⟨rfl, b2⟩
            go_wp2_with fail
            go_meet
            exact ⟨rfl, rfl, rfl, b2⟩
          · have hq := hLt _ HT.out
            have h2 : 1 < ca := by have := HCAP.out; omega
            clear hLt h1
            go_wp2_with fail
            refine hq.mono ?_
            rintro e w2 ⟨rfl, b2⟩
            go_wp2_with fail
            go_meet
            exact ⟨rfl, rfl, rfl, b2⟩
        case rest =>
        obtain ⟨rfl, rfl, rfl, b2⟩ := hcut
        rename World => w2
        have c2 : w2.cell? ⟨b, o, none⟩ = some (.string ⟨x.toArray⟩) := (b2.cell (p := ⟨b, o, none⟩) (Nat.lt_of_lt_of_le hb hbr.size)).trans cr
        replace bR := bR.next b2
        replace hbr := hbr.trans (b2.mono hbr.size)
        have hbw : b < w2.heap.size := Nat.lt_of_lt_of_le hb hbr.size
        clear hLt cr b2 hkb
        by_cases hbad : bad = []
        rotate_left
        · have HN : Hid (readA (x :: t) = (noC, x ++ sInvalid ++ quoteB bad)) := by show _ = _; rw [HRD.out, if_pos hbad]
          have hbb : bad.isEmpty = false := by simpa using hbad
          have hql := quoteB_len bad
          clear HRD
          have hq : Below w2.heap.size w2 w2.drew := (Below.refl _ _).drew
          go_upto_region 13 with fail
          have hcat1 := cat_run (P := Tryd.prog) x sInvalid (by simp [sInvalid]; omega)
          have hcat2 := cat_run (P := Tryd.prog) (x ++ sInvalid) (quoteB bad) (by simp [sInvalid]; omega)
          unfold sInvalid at hcat1 hcat2
          have HMK : ∀ W, Below w2.heap.size w2 W → W.cell? ⟨b, o, none⟩ = some (.string ⟨x.toArray⟩) := fun W h => (h.cell (p := ⟨b, o, none⟩) hbw).trans c2
          go_region_held3 (fun W => W.cell? ⟨b, o, none⟩ = some (.string ⟨x.toArray⟩))
            (first | with_reducible exact HMS | with_reducible exact HMK _ hq)
            (first | (go_at_call 24; (with_reducible refine (refQuoteK_any bad _ (by omega)).mono ?_); rintro e w6 ⟨rfl, b6⟩; have hq := hq.trans (b6.mono hq.size); have bR6 := bR.next hq; have hB6 := hbr.trans (hq.mono hbr.size); obtain ⟨⟨r0, r1, r2⟩, e0, e1, e2⟩ := bR6.tri; obtain ⟨W', hW', hb3, hg3⟩ := bR6.putTri (.int .i64 0) (.string ⟨#[]⟩) (.slice none 0 0); have hbl := grown_below hB6 hg3 (Nat.le_refl _) (Nat.le_refl _); have HMS : W'.cell? ⟨b, o, none⟩ = some (.string ⟨x.toArray⟩) := hg3.cell (HMK _ hq) (by simp; omega)))
          all_goals go_wp2
          all_goals obtain ⟨⟨y0, y1, y2⟩, _⟩ := hb3.tri
          all_goals refine bodyPost_ret (v := .tuple #[.agg #[.int .i64 0, .string ⟨#[]⟩, .slice none 0 0], .string ⟨(x ++ sInvalid ++ quoteB bad).toArray⟩]) (by simp [results, Tryd.f11, go_sem, y0, y1, y2, sInvalid]) rfl ?_
          all_goals exact ⟨.slice none 0 0, by rw [HN.out]; rfl, by rw [HN.out]; exact World.ownsRow_nil _ _ _ _, hbl⟩
        have HRD2 : Hid (readA (x :: t) = opsF K x (optionsF K ls) (t.drop n)) := by
          have := HRD.out
          rw [if_neg (fun c => c hbad)] at this
          exact this
        clear HRD
        subst hbad
        have hO := refOptions_any K ls w2 hls
        have hol : (optionsF K ls).length ≤ 58 := options_len K ls 58
        generalize optionsF K ls = op at *
        go_wp2_with fail
        refine hO.mono ?_
        rintro e w3 ⟨rfl, b3⟩
        have k3 := b3.trans ((below_new w3 (.cells #[.int .i64 K, .string ⟨op.toArray⟩, .slice none 0 0] 26)).mono b3.size)
        have bC := Blk.new w3 26 #[.int .i64 K, .string ⟨op.toArray⟩, .slice none 0 0]
        have hCl : w.heap.size < w3.heap.size := (bR.next b3).lt
        have c4 := (k3.cell (p := ⟨b, o, none⟩) hbw).trans c2
        replace bR := bR.next k3
        replace hbr := hbr.trans (k3.mono hbr.size)
        clear hO c2 hbw b3 k3
        go_upto_region 15 with fail
        generalize hw4 : w3.alloc (.cells #[.int .i64 K, .string ⟨op.toArray⟩, .slice none 0 0] 26) = w4 at *
        have hbw4 : b < w4.heap.size := Nat.lt_of_lt_of_le hb hbr.size
        have hCl4 : w3.heap.size < w4.heap.size := bC.lt
        clear hw4
        generalize w3.heap.size = BC at *
        obtain ⟨m, hm⟩ : ∃ m, m = 1 + n := ⟨_, rfl⟩
        have hwm : IntKind.i64.wrap (1 + (n : Int)) = (m : Int) := by rw [IntKind.wrap_i64]; omega
        have hm0 : (0 : Int) ≤ (m : Int) := by omega
        have hm1 : (m : Int) ≤ (t.length : Int) + 1 := by omega
        have hm4 : (t.length : Int) + 1 ≤ (ca : Int) := by have := HCAP.out; omega
        have hm5 : t.length + 1 ≤ ca := by have := HCAP.out; omega
        have hm2 : m ≤ t.length + 1 := by omega
        have hm3 : m ≤ ca := by have := HCAP.out; omega
        have hnews : ∀ W, Below w.heap.size w W → ∀ j u, (strsV (t.drop n))[j]? = some u → W.cell? ((⟨b, o + m, none⟩ : Addr).add j) = some u := by
          intro W hW j u hu
          rw [strsV, List.getElem?_map] at hu
          rcases hj : (t.drop n)[j]? with _ | y
          · rw [hj] at hu; cases hu
          rw [hj] at hu
          have hjl : n + j < t.length := by
            have := (List.getElem?_eq_some_iff.1 hj).1
            rw [List.length_drop] at this; omega
          have hy : t[n + j] = y := by
            rw [List.getElem?_drop, List.getElem?_eq_getElem hjl] at hj
            exact Option.some.inj hj
          have := HC.out (n + j + 1) (by rw [List.length_cons]; omega)
          rw [List.getElem_cons_succ, hy] at this
          rw [Addr.add_lit, show o + m + j = o + (n + j + 1) by omega, (hW.cell (p := ⟨b, o + (n + j + 1), none⟩) hb), this]
          exact hu
        have HNW := Lib.hid hnews
        clear hnews
        obtain ⟨is, hsi, hs0, hs1, hs2⟩ := info_parts infoS17
        have hdl : (t.drop n).length = t.length + 1 - m := by rw [List.length_drop]; omega
        have hsl : (strsV (t.drop n)).length = (t.length + 1 - m) * 1 := by rw [strsV, List.length_map, hdl, Nat.mul_one]
        have hq : Below w4.heap.size w4 w4.drew := (Below.refl _ _).drew
        have hbd4 := hbr.drew
        have HM := Lib.hid hm
        clear hm
        go_cut [4] from 58 (fun s4 wc => s4 = .int .i64 K ∧ ∃ vo, Aside (wc.ownsRow w4.heap.size 9 1 vo (t.drop n).length (strsV (t.drop n)) ∧ Blk wc BC 26 #[.int .i64 K, .string ⟨op.toArray⟩, vo] ∧ Blk wc w.heap.size 26 #[.int .i64 0, .string ⟨#[]⟩, .slice none 0 0] ∧ Below w.heap.size w wc))
        case first =>
          obtain ⟨⟨d0, d1, d2⟩, g0, g1, g2⟩ := bC.tri
          by_cases hmc : m = ca
          · have hz : t.length + 1 - m = 0 := by omega
            have hmc4 : (m : Int) = (ca : Int) := by omega
            have hmc6 : (ca : Int) ≤ (t.length : Int) + 1 := by omega
            have hnn0 : t.drop n = [] := List.eq_nil_of_length_eq_zero (by rw [hdl]; exact hz)

            have hsl0 : (strsV (t.drop n)).length = 0 * 1 := by rw [hnn0]; rfl
            ((refine wp_region_held_drew (S := (fun _ => True)) (by kernel_rfl) (trivial) (fun hHeld => ?_)); (refine heldTake 0 (some 58) (v := ?_) rfl rfl (by kernel_rfl) (by kernel_rfl) (by kernel_rfl) (fun _ _ _ h => h) (by rfl) ?_ (by assumption) ?_; rotate_left; (focus (intro w hSw; (try dsimp only at hSw); go_simp; try with_reducible rfl)); (try simp only [Act.put, List.setIfInBounds_toArray, List.set_cons_zero, List.set_cons_succ])); (refine heldTake 2 (some 60) (v := ?_) rfl rfl (by kernel_rfl) (by kernel_rfl) (by kernel_rfl) (fun _ _ _ h => h) (by rfl) ?_ (by assumption) ?_; rotate_left; (focus (intro w hSw; (try dsimp only at hSw); go_simp; try with_reducible rfl)); (try simp only [Act.put, List.setIfInBounds_toArray, List.set_cons_zero, List.set_cons_succ])); (refine heldTake 3 (some 61) (v := ?_) rfl rfl (by kernel_rfl) (by kernel_rfl) (by kernel_rfl) (fun _ _ _ h => h) (by rfl) ?_ (by assumption) ?_; rotate_left; (focus (intro w hSw; (try dsimp only at hSw); go_simp; try with_reducible rfl)); (try simp only [Act.put, List.setIfInBounds_toArray, List.set_cons_zero, List.set_cons_succ])); (refine heldTake 4 (some 62) (v := ?_) rfl rfl (by kernel_rfl) (by kernel_rfl) (by kernel_rfl) (fun _ _ _ h => h) (by rfl) ?_ (by assumption) ?_; rotate_left; (focus (intro w hSw; (try dsimp only at hSw); go_simp; try with_reducible rfl)); (try simp only [Act.put, List.setIfInBounds_toArray, List.set_cons_zero, List.set_cons_succ])); (refine heldTake 5 (some 63) (v := ?_) rfl rfl (by kernel_rfl) (by kernel_rfl) (by kernel_rfl) (fun _ _ _ h => h) (by rfl) ?_ (by assumption) ?_; rotate_left; (focus (intro w hSw; (try dsimp only at hSw); go_simp; try with_reducible rfl)); (try simp only [Act.put, List.setIfInBounds_toArray, List.set_cons_zero, List.set_cons_succ])); (refine wpAnyH_ready (rs := [1]) (by kernel_rfl) (by simp) ?_; refine AllReadyH.cons rfl (fun K hK => ?_) AllReadyH.nil; go_simp; skip; (try dsimp only); refine hK.out _ _ (trivial) (fun hHeld => ?_); clear hK K; (try simp only [Act.put, List.setIfInBounds_toArray, List.set_cons_zero, List.set_cons_succ])); (refine wpAnyH_ready (rs := [6]) (by kernel_rfl) (by simp) ?_; refine AllReadyH.cons rfl (fun K hK => ?_) AllReadyH.nil; refine step_append_all rfl (.tmp 59) (.tmp 63) 22 9 rfl Tryd.underlying22 hsi hs0 hs1 hs2 rfl (by decide) (by decide) w4.heap.size (v := .slice none 0 0) (n := 0) (xs := []) (some ⟨b, o, none⟩) (0) (0) (strsV (t.drop n)) rfl rfl (World.ownsRow_nil _ _ _ _) (fun h => by cases h) hsl0 (fun ad h => by cases h; first | exact HNW.out _ hbd4 | (intro j u hu; rw [hnn0] at hu; cases hu)) (strsV_one17 _) (by omega) (Nat.le_refl _) ?_; intro v6 w6 own6 hB6; refine hK.out _ _ trivial (fun hHeld => ?_); clear hK K; (try simp only [Act.put, List.setIfInBounds_toArray, List.set_cons_zero, List.set_cons_succ])); (refine heldTake 7 (some 65) (v := ?_) rfl rfl (by kernel_rfl) (by kernel_rfl) (by kernel_rfl) (fun _ _ _ h => h) (by rfl) ?_ (by assumption) ?_; rotate_left; (focus (intro w hSw; (try dsimp only at hSw); go_simp; try with_reducible rfl)); (try simp only [Act.put, List.setIfInBounds_toArray, List.set_cons_zero, List.set_cons_succ])); (have bC6 := bC.next (hq.trans hB6)); (have bR6 := bR.next (hq.trans hB6)); (have hb6 := hbr.trans ((hq.trans hB6).mono hbr.size)); (obtain ⟨⟨z0, z1, z2⟩, y0, y1, y2⟩ := bC6.tri); (obtain ⟨a6, c6, rfl⟩ := own_sl17 own6); (refine wpAnyH_ready (rs := [8]) (by kernel_rfl) (by simp) ?_; refine AllReadyH.cons rfl (fun K hK => ?_) AllReadyH.nil; go_simp; skip; (try dsimp only); refine hK.out _ _ (trivial) (fun hHeld => ?_); clear hK K; (try simp only [Act.put, List.setIfInBounds_toArray, List.set_cons_zero, List.set_cons_succ])); refine wpAnyH_done (by kernel_rfl) ?_ _; (have own7 := own6.kept (grownBy_set w6 BC 2 (.slice a6 (0) c6)) (own_far17 own6 hCl4)); (have bC7 := bC6.set 2 (.slice a6 (0) c6)); (have bR7 := bR6.other (i := 2) (Nat.ne_of_lt hCl) (.slice a6 (0) c6)); (have hb7 := grown_below hb6 (grownBy_set w6 BC 2 (.slice a6 (0) c6)) (Nat.le_refl _) (Nat.le_of_lt hCl)); go_wp2_with fail; go_meet; exact ⟨rfl, .slice a6 (0) c6, ⟨by simpa [hdl, hz] using own7, bC7, bR7, hb7⟩⟩)
          · have hmc2 : m < ca := by omega
            have hmc3 : (m : Int) < (ca : Int) := by omega
            have hmc5 : ¬ ca = m := by omega
            ((refine wp_region_held_drew (S := (fun _ => True)) (by kernel_rfl) (trivial) (fun hHeld => ?_)); (refine heldTake 0 (some 58) (v := ?_) rfl rfl (by kernel_rfl) (by kernel_rfl) (by kernel_rfl) (fun _ _ _ h => h) (by rfl) ?_ (by assumption) ?_; rotate_left; (focus (intro w hSw; (try dsimp only at hSw); go_simp; try with_reducible rfl)); (try simp only [Act.put, List.setIfInBounds_toArray, List.set_cons_zero, List.set_cons_succ])); (refine heldTake 2 (some 60) (v := ?_) rfl rfl (by kernel_rfl) (by kernel_rfl) (by kernel_rfl) (fun _ _ _ h => h) (by rfl) ?_ (by assumption) ?_; rotate_left; (focus (intro w hSw; (try dsimp only at hSw); go_simp; try with_reducible rfl)); (try simp only [Act.put, List.setIfInBounds_toArray, List.set_cons_zero, List.set_cons_succ])); (refine heldTake 3 (some 61) (v := ?_) rfl rfl (by kernel_rfl) (by kernel_rfl) (by kernel_rfl) (fun _ _ _ h => h) (by rfl) ?_ (by assumption) ?_; rotate_left; (focus (intro w hSw; (try dsimp only at hSw); go_simp; try with_reducible rfl)); (try simp only [Act.put, List.setIfInBounds_toArray, List.set_cons_zero, List.set_cons_succ])); (refine heldTake 4 (some 62) (v := ?_) rfl rfl (by kernel_rfl) (by kernel_rfl) (by kernel_rfl) (fun _ _ _ h => h) (by rfl) ?_ (by assumption) ?_; rotate_left; (focus (intro w hSw; (try dsimp only at hSw); go_simp; try with_reducible rfl)); (try simp only [Act.put, List.setIfInBounds_toArray, List.set_cons_zero, List.set_cons_succ])); (refine heldTake 5 (some 63) (v := ?_) rfl rfl (by kernel_rfl) (by kernel_rfl) (by kernel_rfl) (fun _ _ _ h => h) (by rfl) ?_ (by assumption) ?_; rotate_left; (focus (intro w hSw; (try dsimp only at hSw); go_simp; try with_reducible rfl)); (try simp only [Act.put, List.setIfInBounds_toArray, List.set_cons_zero, List.set_cons_succ])); (refine wpAnyH_ready (rs := [1]) (by kernel_rfl) (by simp) ?_; refine AllReadyH.cons rfl (fun K hK => ?_) AllReadyH.nil; go_simp; skip; (try dsimp only); refine hK.out _ _ (trivial) (fun hHeld => ?_); clear hK K; (try simp only [Act.put, List.setIfInBounds_toArray, List.set_cons_zero, List.set_cons_succ])); (refine wpAnyH_ready (rs := [6]) (by kernel_rfl) (by simp) ?_; refine AllReadyH.cons rfl (fun K hK => ?_) AllReadyH.nil; refine step_append_all rfl (.tmp 59) (.tmp 63) 22 9 rfl Tryd.underlying22 hsi hs0 hs1 hs2 rfl (by decide) (by decide) w4.heap.size (v := .slice none 0 0) (n := 0) (xs := []) (some ⟨b, o + m, none⟩) (t.length + 1 - m) (ca - m) (strsV (t.drop n)) rfl rfl (World.ownsRow_nil _ _ _ _) (fun h => by cases h) hsl (fun ad h => by cases h; first | exact HNW.out _ hbd4 | (intro j u hu; rw [hnn0] at hu; cases hu)) (strsV_one17 _) (by omega) (Nat.le_refl _) ?_; intro v6 w6 own6 hB6; refine hK.out _ _ trivial (fun hHeld => ?_); clear hK K; (try simp only [Act.put, List.setIfInBounds_toArray, List.set_cons_zero, List.set_cons_succ])); (refine heldTake 7 (some 65) (v := ?_) rfl rfl (by kernel_rfl) (by kernel_rfl) (by kernel_rfl) (fun _ _ _ h => h) (by rfl) ?_ (by assumption) ?_; rotate_left; (focus (intro w hSw; (try dsimp only at hSw); go_simp; try with_reducible rfl)); (try simp only [Act.put, List.setIfInBounds_toArray, List.set_cons_zero, List.set_cons_succ])); (have bC6 := bC.next (hq.trans hB6)); (have bR6 := bR.next (hq.trans hB6)); (have hb6 := hbr.trans ((hq.trans hB6).mono hbr.size)); (obtain ⟨⟨z0, z1, z2⟩, y0, y1, y2⟩ := bC6.tri); (obtain ⟨a6, c6, rfl⟩ := own_sl17 own6); (refine wpAnyH_ready (rs := [8]) (by kernel_rfl) (by simp) ?_; refine AllReadyH.cons rfl (fun K hK => ?_) AllReadyH.nil; go_simp; skip; (try dsimp only); refine hK.out _ _ (trivial) (fun hHeld => ?_); clear hK K; (try simp only [Act.put, List.setIfInBounds_toArray, List.set_cons_zero, List.set_cons_succ])); refine wpAnyH_done (by kernel_rfl) ?_ _; (have own7 := own6.kept (grownBy_set w6 BC 2 (.slice a6 (t.length + 1 - m) c6)) (own_far17 own6 hCl4)); (have bC7 := bC6.set 2 (.slice a6 (t.length + 1 - m) c6)); (have bR7 := bR6.other (i := 2) (Nat.ne_of_lt hCl) (.slice a6 (t.length + 1 - m) c6)); (have hb7 := grown_below hb6 (grownBy_set w6 BC 2 (.slice a6 (t.length + 1 - m) c6)) (Nat.le_refl _) (Nat.le_of_lt hCl)); go_wp2_with fail; go_meet; exact ⟨rfl, .slice a6 (t.length + 1 - m) c6, ⟨by simpa [hdl, hdl] using own7, bC7, bR7, hb7⟩⟩)
        case rest =>
          obtain ⟨rfl, vo, HV7⟩ := hcut
          rename World => w7
          obtain ⟨own7, bC7, bR7, hb7⟩ := HV7.out
          obtain ⟨a7, c7, rfl⟩ := own_sl17 own7
          have hfar : w.heap.size < w4.heap.size := Nat.lt_trans hCl hCl4
          have hbase : w.heap.size ≤ w4.heap.size := Nat.le_of_lt hfar
          have HRD3 := HRD2
          have hLm : ∀ y ∈ t.drop n, y.length ≤ 1000 := fun y hy => HE.out y (List.mem_cons_of_mem _ (List.mem_of_mem_drop hy))
          have hLl : (t.drop n).length ≤ 900 := by rw [List.length_drop]; omega
          generalize t.drop n = L at *
          clear HV7 HNW hdl hsl hq hbd4 HM hwm hm0 hm1 hm4 hm5 hm2 hm3 hbr bR bC c4 hbw4 HRD2
          have c5 : w7.cell? ⟨b, o, none⟩ = some (.string ⟨x.toArray⟩) := (hb7.cell (p := ⟨b, o, none⟩) hb).trans (HC.out 0 (by simp))
          have hbw : b < w7.heap.size := Nat.lt_of_lt_of_le hb hb7.size
          obtain ⟨⟨z0, z1, z2⟩, _⟩ := bC7.tri
          go_upto_region 18 with fail
          go_cut [75] from 69 (fun s75 wc => s75 = .bool (decide (4 ≤ K) || inB op 84) ∧ w7 = wc)
          case first =>
            by_cases h4 : 4 ≤ K
            · go_wp2_with fail
              go_meet
              exact ⟨by rw [decide_eq_true h4]; rfl, rfl⟩
            · have h4f := Lib.hid (decide_eq_false h4)
              go_wp2_with fail
              refine (refIn_any op 84 _ (by omega)).mono ?_
              rintro e w8 ⟨rfl, rfl⟩
              go_wp2_with fail
              go_meet
              exact ⟨by rw [h4f.out]; rfl, rfl⟩
          case rest =>
          obtain ⟨rfl, rfl⟩ := hcut
          go_upto_if 75 with (fail)
          go_cut [11] from 69 (fun s11 wc => s11 = .int .i64 ((leastF K op : Nat) : Int) ∧ w7 = wc)
          case first =>
            cases hlb : (decide (4 ≤ K) || inB op 84)
            · go_wp2_with fail
              go_meet
              exact ⟨by rw [least_is, hlb]; rfl, rfl⟩
            · go_wp2_with fail
              go_meet
              exact ⟨by rw [least_is, hlb]; rfl, rfl⟩
          case rest =>
          obtain ⟨rfl, rfl⟩ := hcut
          obtain ⟨lst, hlst⟩ : ∃ m, m = leastF K op := ⟨_, rfl⟩
          rw [← hlst]
          have HLS := Lib.hid hlst
          clear hlst
          have hl12 : 1 ≤ lst ∧ lst ≤ 2 := by rw [HLS.out]; unfold leastF; split <;> omega
          by_cases h0 : L.length = 0
          · have HL0 := Lib.hid (List.eq_nil_of_length_eq_zero h0)
            have hb0 : ((L.length : Int) == 0) = true := by rw [beq_iff_eq]; omega
            have hb1 : ¬ (0 : Int) < (L.length : Int) := by omega
            have hb2 : ¬ (2 : Int) < (L.length : Int) := by omega
            have H0 := Lib.hid h0
            clear h0
            by_cases hk2 : K = 2
            · subst hk2
              go_wp2_with fail
              refine (refIn_any op 102 _ (by omega)).mono ?_
              rintro e w8 ⟨rfl, rfl⟩
              cases hf : inB op 102
              · have hop1 : L = [] ∧ ¬ ((2 : Int) = 2 ∧ inB op 102 = true) := ⟨HL0.out, fun c => by rw [hf] at c; exact absurd c.2 (by decide)⟩
                (have HN : Hid (readA (x :: t) = (noC, x ++ sOperand)) := (by (show _ = _; rw [HRD3.out]; exact ops_none hop1); ); have hq : Below w7.heap.size w7 w7.drew := (Below.refl _ _).drew; go_upto_region 21 with fail; have hcat1 := cat_run (P := Tryd.prog) x sOperand (by simp [sOperand]; omega); unfold sOperand at hcat1; have HMK := fun W (h : Below w7.heap.size w7 W) => (h.cell (p := ⟨b, o, none⟩) hbw).trans c5; have HMT := fun W (h : Below w7.heap.size w7 W) W' (hg : W.grownBy W' (some w.heap.size)) => hg.cell (HMK W h) (by simp; omega); clear z0 z1 z2; have hq0 := Below.refl w7.heap.size w7; obtain ⟨⟨r0, r1, r2⟩, e0, e1, e2⟩ := bR7.tri; obtain ⟨W', hW', hb3, hg3⟩ := bR7.putTri (.int .i64 0) (.string ⟨#[]⟩) (.slice none 0 0); have hbl := (grown_below hb7 hg3 (Nat.le_refl _) (Nat.le_refl _)).drew; have HMS0 := HMT _ hq0 _ hg3; have HMS : W'.drew.cell? ⟨b, o, none⟩ = some (.string ⟨x.toArray⟩) := HMS0; go_region_held3 (fun W => W.cell? ⟨b, o, none⟩ = some (.string ⟨x.toArray⟩)) (first | with_reducible exact HMS | with_reducible exact HMS0 | with_reducible exact HMK _ hq | with_reducible exact HMK _ hq0) (first | fail); (all_goals go_wp2; all_goals obtain ⟨⟨y0, y1, y2⟩, _⟩ := hb3.tri; all_goals refine bodyPost_ret (v := .tuple #[.agg #[.int .i64 0, .string ⟨#[]⟩, .slice none 0 0], .string ⟨(x ++ sOperand).toArray⟩]) (by simp [results, Tryd.f11, go_sem, y0, y1, y2, sOperand]) rfl ?_; all_goals exact ⟨.slice none 0 0, by rw [HN.out]; rfl, by rw [HN.out]; exact World.ownsRow_nil _ _ _ _, hbl⟩))
              · have hop1 : ¬ (L = [] ∧ ¬ ((2 : Int) = 2 ∧ inB op 102 = true)) := fun c => c.2 ⟨rfl, hf⟩
                have hop2 : ¬ (L ≠ [] ∧ L.length < leastF 2 op) := fun c => c.1 HL0.out
                have hop3 : ¬ (2 < L.length ∧ inB op 84 = true) := fun c => by rw [H0.out] at c; omega
                (have HNK : Hid (readA (x :: t) = (⟨2, op, L⟩, [])) := (by (show _ = _; rw [HRD3.out]; exact ops_ok hop1 hop2 hop3)); obtain ⟨⟨r0, r1, r2⟩, e0, e1, e2⟩ := bR7.tri; obtain ⟨W', hW', hb3, hg3⟩ := bR7.putTri (.int .i64 2) (.string ⟨op.toArray⟩) (.slice a7 L.length c7); have hbl := grown_below hb7 hg3 (Nat.le_refl _) (Nat.le_refl _); have own9 := own7.kept hg3 (own_far17 own7 hfar); go_wp2; obtain ⟨⟨y0, y1, y2⟩, _⟩ := hb3.tri; refine bodyPost_ret (v := .tuple #[.agg #[.int .i64 2, .string ⟨op.toArray⟩, .slice a7 L.length c7], .string ⟨#[]⟩]) (by simp [results, Tryd.f11, go_sem, y0, y1, y2]) rfl ?_; exact ⟨.slice a7 L.length c7, by rw [HNK.out], by rw [HNK.out]; exact own_base17 own9 hbase, hbl⟩)
            · have hk2b : (K == 2) = false := by rw [beq_eq_false_iff_ne]; exact hk2
              have hop1 : L = [] ∧ ¬ (K = 2 ∧ inB op 102 = true) := ⟨HL0.out, fun c => hk2 c.1⟩
              (have HN : Hid (readA (x :: t) = (noC, x ++ sOperand)) := (by (show _ = _; rw [HRD3.out]; exact ops_none hop1); ); have hq : Below w7.heap.size w7 w7.drew := (Below.refl _ _).drew; go_upto_region 21 with fail; have hcat1 := cat_run (P := Tryd.prog) x sOperand (by simp [sOperand]; omega); unfold sOperand at hcat1; have HMK := fun W (h : Below w7.heap.size w7 W) => (h.cell (p := ⟨b, o, none⟩) hbw).trans c5; have HMT := fun W (h : Below w7.heap.size w7 W) W' (hg : W.grownBy W' (some w.heap.size)) => hg.cell (HMK W h) (by simp; omega); clear z0 z1 z2; have hq0 := Below.refl w7.heap.size w7; obtain ⟨⟨r0, r1, r2⟩, e0, e1, e2⟩ := bR7.tri; obtain ⟨W', hW', hb3, hg3⟩ := bR7.putTri (.int .i64 0) (.string ⟨#[]⟩) (.slice none 0 0); have hbl := (grown_below hb7 hg3 (Nat.le_refl _) (Nat.le_refl _)).drew; have HMS0 := HMT _ hq0 _ hg3; have HMS : W'.drew.cell? ⟨b, o, none⟩ = some (.string ⟨x.toArray⟩) := HMS0; go_region_held3 (fun W => W.cell? ⟨b, o, none⟩ = some (.string ⟨x.toArray⟩)) (first | with_reducible exact HMS | with_reducible exact HMS0 | with_reducible exact HMK _ hq | with_reducible exact HMK _ hq0) (first | fail); (all_goals go_wp2; all_goals obtain ⟨⟨y0, y1, y2⟩, _⟩ := hb3.tri; all_goals refine bodyPost_ret (v := .tuple #[.agg #[.int .i64 0, .string ⟨#[]⟩, .slice none 0 0], .string ⟨(x ++ sOperand).toArray⟩]) (by simp [results, Tryd.f11, go_sem, y0, y1, y2, sOperand]) rfl ?_; all_goals exact ⟨.slice none 0 0, by rw [HN.out]; rfl, by rw [HN.out]; exact World.ownsRow_nil _ _ _ _, hbl⟩))
          · have hb0 : ((L.length : Int) == 0) = false := by rw [beq_eq_false_iff_ne]; omega
            have hb1 : (0 : Int) < (L.length : Int) := by omega
            have hLe : L ≠ [] := fun c => h0 (by rw [c]; rfl)
            obtain ⟨g7, rfl, hg7b, hg7, hcell7⟩ := own_at17 own7 (by omega)
            by_cases h1 : L.length < lst
            · have hlt3 : (L.length : Int) < (lst : Int) := by omega
              obtain ⟨M, hM⟩ : ∃ M, L.length = M + 1 := ⟨L.length - 1, by omega⟩
              have hy7 := hcell7 M (by omega)
              have hyl := hLm L[M] (List.getElem_mem (by omega))
              have hyM : L[M]? = some L[M] := List.getElem?_eq_getElem (by omega)
              generalize L[M] = y at *
              have HNQ : readA (x :: t) = (noC, x ++ sDest ++ quoteB y) := by rw [HRD3.out]; exact ops_few hM (by rw [← HLS.out]; exact h1) hyM
              have hwM : IntKind.i64.wrap ((L.length : Int) - 1) = (M : Int) := by rw [IntKind.wrap_i64]; omega
              have hM0 : (0 : Int) ≤ (M : Int) := by omega
              have hM1 : (M : Int) < (L.length : Int) := by omega
              have HM := Lib.hid hM
              clear hM
              (have HN : Hid (readA (x :: t) = (noC, x ++ sDest ++ quoteB y)) := HNQ; have hq : Below w7.heap.size w7 w7.drew := (Below.refl _ _).drew; go_upto_region 23 with fail; have hql := quoteB_len y; have hcat1 := cat_run (P := Tryd.prog) x sDest (by simp [sDest]; omega); have hcat2 := cat_run (P := Tryd.prog) (x ++ sDest) (quoteB y) (by simp [sDest]; omega); unfold sDest at hcat1 hcat2; have HMK : ∀ W, Below w7.heap.size w7 W → (W.cell? ⟨b, o, none⟩ = some (.string ⟨x.toArray⟩) ∧ W.cell? ⟨BC, 2, none⟩ = some (.slice (some ⟨g7, 0, none⟩) L.length c7) ∧ W.cell? ⟨g7, M, none⟩ = some (.string ⟨y.toArray⟩)) := fun W h => ⟨(h.cell (p := ⟨b, o, none⟩) hbw).trans c5, (h.cell (p := ⟨BC, 2, none⟩) bC7.lt).trans z2, (h.cell (p := ⟨g7, M, none⟩) hg7).trans hy7⟩; have HMT := fun W (h : Below w7.heap.size w7 W) W' (hg : W.grownBy W' (some w.heap.size)) => (show W'.cell? ⟨b, o, none⟩ = some (.string ⟨x.toArray⟩) ∧ W'.cell? ⟨BC, 2, none⟩ = some (.slice (some ⟨g7, 0, none⟩) L.length c7) ∧ W'.cell? ⟨g7, M, none⟩ = some (.string ⟨y.toArray⟩) from ⟨hg.cell (HMK W h).1 (by simp; omega), hg.cell (HMK W h).2.1 (by simp; omega), hg.cell (HMK W h).2.2 (by simp; omega)⟩); clear z0 z1 z2; go_region_held3 (fun W => W.cell? ⟨b, o, none⟩ = some (.string ⟨x.toArray⟩) ∧ W.cell? ⟨BC, 2, none⟩ = some (.slice (some ⟨g7, 0, none⟩) L.length c7) ∧ W.cell? ⟨g7, M, none⟩ = some (.string ⟨y.toArray⟩)) (first | with_reducible exact HMS | with_reducible exact HMK _ hq) (first | (go_at_call 24; (with_reducible refine (refQuoteK_any y _ (by omega)).mono ?_); rintro e w6 ⟨rfl, b6⟩; have hq := hq.trans (b6.mono hq.size); (have bR6 := bR7.next hq; have hB6 := hb7.trans (hq.mono hb7.size); obtain ⟨⟨r0, r1, r2⟩, e0, e1, e2⟩ := bR6.tri; obtain ⟨W', hW', hb3, hg3⟩ := bR6.putTri (.int .i64 0) (.string ⟨#[]⟩) (.slice none 0 0); have hbl := grown_below hB6 hg3 (Nat.le_refl _) (Nat.le_refl _); have HMS := HMT _ hq _ hg3))); (all_goals go_wp2; all_goals obtain ⟨⟨y0, y1, y2⟩, _⟩ := hb3.tri; all_goals refine bodyPost_ret (v := .tuple #[.agg #[.int .i64 0, .string ⟨#[]⟩, .slice none 0 0], .string ⟨(x ++ sDest ++ quoteB y).toArray⟩]) (by simp [results, Tryd.f11, go_sem, y0, y1, y2, sDest]) rfl ?_; all_goals exact ⟨.slice none 0 0, by rw [HN.out]; rfl, by rw [HN.out]; exact World.ownsRow_nil _ _ _ _, hbl⟩))
            · have hlt3 : ¬ (L.length : Int) < (lst : Int) := by omega
              have hop1 : ¬ (L = [] ∧ ¬ (K = 2 ∧ inB op 102 = true)) := fun c => hLe c.1
              have hop2 : ¬ (L ≠ [] ∧ L.length < leastF K op) := fun c => h1 (by rw [HLS.out]; exact c.2)
              by_cases h2 : 2 < L.length
              · have hb4 : (2 : Int) < (L.length : Int) := by omega
                go_wp2_with fail
                refine (refIn_any op 84 _ (by omega)).mono ?_
                rintro e w8 ⟨rfl, rfl⟩
                cases hT : inB op 84
                · have hop3 : ¬ (2 < L.length ∧ inB op 84 = true) := fun c => by rw [hT] at c; exact absurd c.2 (by decide)
                  (have HNK : Hid (readA (x :: t) = (⟨K, op, L⟩, [])) := (by (show _ = _; rw [HRD3.out]; exact ops_ok hop1 hop2 hop3)); obtain ⟨⟨r0, r1, r2⟩, e0, e1, e2⟩ := bR7.tri; obtain ⟨W', hW', hb3, hg3⟩ := bR7.putTri (.int .i64 K) (.string ⟨op.toArray⟩) (.slice (some ⟨g7, 0, none⟩) L.length c7); have hbl := grown_below hb7 hg3 (Nat.le_refl _) (Nat.le_refl _); have own9 := own7.kept hg3 (own_far17 own7 hfar); go_wp2; obtain ⟨⟨y0, y1, y2⟩, _⟩ := hb3.tri; refine bodyPost_ret (v := .tuple #[.agg #[.int .i64 K, .string ⟨op.toArray⟩, .slice (some ⟨g7, 0, none⟩) L.length c7], .string ⟨#[]⟩]) (by simp [results, Tryd.f11, go_sem, y0, y1, y2]) rfl ?_; exact ⟨.slice (some ⟨g7, 0, none⟩) L.length c7, by rw [HNK.out], by rw [HNK.out]; exact own_base17 own9 hbase, hbl⟩)
                · have hy7 := hcell7 2 h2
                  have hyl := hLm L[2] (List.getElem_mem h2)
                  have hyM : L[2]? = some L[2] := List.getElem?_eq_getElem h2
                  generalize L[2] = y at *
                  have HNQ : readA (x :: t) = (noC, x ++ sExtra ++ quoteB y) := by rw [HRD3.out]; exact ops_more h2 (by rw [← HLS.out]; exact h1) hT hyM
                  (have HN : Hid (readA (x :: t) = (noC, x ++ sExtra ++ quoteB y)) := HNQ; have hq : Below w7.heap.size w7 w7.drew := (Below.refl _ _).drew; go_upto_region 25 with fail; have hql := quoteB_len y; have hcat1 := cat_run (P := Tryd.prog) x sExtra (by simp [sExtra]; omega); have hcat2 := cat_run (P := Tryd.prog) (x ++ sExtra) (quoteB y) (by simp [sExtra]; omega); unfold sExtra at hcat1 hcat2; have HMK : ∀ W, Below w7.heap.size w7 W → (W.cell? ⟨b, o, none⟩ = some (.string ⟨x.toArray⟩) ∧ W.cell? ⟨BC, 2, none⟩ = some (.slice (some ⟨g7, 0, none⟩) L.length c7) ∧ W.cell? ⟨g7, 2, none⟩ = some (.string ⟨y.toArray⟩)) := fun W h => ⟨(h.cell (p := ⟨b, o, none⟩) hbw).trans c5, (h.cell (p := ⟨BC, 2, none⟩) bC7.lt).trans z2, (h.cell (p := ⟨g7, 2, none⟩) hg7).trans hy7⟩; have HMT := fun W (h : Below w7.heap.size w7 W) W' (hg : W.grownBy W' (some w.heap.size)) => (show W'.cell? ⟨b, o, none⟩ = some (.string ⟨x.toArray⟩) ∧ W'.cell? ⟨BC, 2, none⟩ = some (.slice (some ⟨g7, 0, none⟩) L.length c7) ∧ W'.cell? ⟨g7, 2, none⟩ = some (.string ⟨y.toArray⟩) from ⟨hg.cell (HMK W h).1 (by simp; omega), hg.cell (HMK W h).2.1 (by simp; omega), hg.cell (HMK W h).2.2 (by simp; omega)⟩); clear z0 z1 z2; go_region_held3 (fun W => W.cell? ⟨b, o, none⟩ = some (.string ⟨x.toArray⟩) ∧ W.cell? ⟨BC, 2, none⟩ = some (.slice (some ⟨g7, 0, none⟩) L.length c7) ∧ W.cell? ⟨g7, 2, none⟩ = some (.string ⟨y.toArray⟩)) (first | with_reducible exact HMS | with_reducible exact HMK _ hq) (first | (go_at_call 24; (with_reducible refine (refQuoteK_any y _ (by omega)).mono ?_); rintro e w6 ⟨rfl, b6⟩; have hq := hq.trans (b6.mono hq.size); (have bR6 := bR7.next hq; have hB6 := hb7.trans (hq.mono hb7.size); obtain ⟨⟨r0, r1, r2⟩, e0, e1, e2⟩ := bR6.tri; obtain ⟨W', hW', hb3, hg3⟩ := bR6.putTri (.int .i64 0) (.string ⟨#[]⟩) (.slice none 0 0); have hbl := grown_below hB6 hg3 (Nat.le_refl _) (Nat.le_refl _); have HMS := HMT _ hq _ hg3))); (all_goals go_wp2; all_goals obtain ⟨⟨y0, y1, y2⟩, _⟩ := hb3.tri; all_goals refine bodyPost_ret (v := .tuple #[.agg #[.int .i64 0, .string ⟨#[]⟩, .slice none 0 0], .string ⟨(x ++ sExtra ++ quoteB y).toArray⟩]) (by simp [results, Tryd.f11, go_sem, y0, y1, y2, sExtra]) rfl ?_; all_goals exact ⟨.slice none 0 0, by rw [HN.out]; rfl, by rw [HN.out]; exact World.ownsRow_nil _ _ _ _, hbl⟩))
              · have hb4 : ¬ (2 : Int) < (L.length : Int) := by omega
                have hop3 : ¬ (2 < L.length ∧ inB op 84 = true) := fun c => h2 c.1
                (have HNK : Hid (readA (x :: t) = (⟨K, op, L⟩, [])) := (by (show _ = _; rw [HRD3.out]; exact ops_ok hop1 hop2 hop3)); obtain ⟨⟨r0, r1, r2⟩, e0, e1, e2⟩ := bR7.tri; obtain ⟨W', hW', hb3, hg3⟩ := bR7.putTri (.int .i64 K) (.string ⟨op.toArray⟩) (.slice (some ⟨g7, 0, none⟩) L.length c7); have hbl := grown_below hb7 hg3 (Nat.le_refl _) (Nat.le_refl _); have own9 := own7.kept hg3 (own_far17 own7 hfar); go_wp2; obtain ⟨⟨y0, y1, y2⟩, _⟩ := hb3.tri; refine bodyPost_ret (v := .tuple #[.agg #[.int .i64 K, .string ⟨op.toArray⟩, .slice (some ⟨g7, 0, none⟩) L.length c7], .string ⟨#[]⟩]) (by simp [results, Tryd.f11, go_sem, y0, y1, y2]) rfl ?_; exact ⟨.slice (some ⟨g7, 0, none⟩) L.length c7, by rw [HNK.out], by rw [HNK.out]; exact own_base17 own9 hbase, hbl⟩)
end Go.Proofs.YtboceckeebhfoaaDoor
