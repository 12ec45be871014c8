/- Walks: the program's Tell. -/
import Derived.Test.YtbaclgnohnmdgaaDoorWalkO18
set_option linter.unusedVariables false
set_option linter.unusedSimpArgs false
namespace Go.Proofs.YtbaclgnohnmdgaaDoor
open Go.RowKit
set_option linter.unusedVariables false

theorem fill_len {a b m x : List UInt8} (ha : a.length ≤ 5000) (hb : b.length ≤ 5000) (hm : m.length ≤ 5000) (hx : x.length ≤ 40) : (fillW a b m x).length ≤ 5040 := by
  cases x with
  | nil => simp [fillW]
  | cons c r =>
    simp only [fillW]
    simp at hx
    split
    · simp; omega
    · split
      · simp; omega
      · split
        · simp; omega
        · simp; omega

set_option maxHeartbeats 4000000 in
theorem filled_any (what : Int) (hw : 1 ≤ what ∧ what ≤ 22) (a b : List UInt8) (e : Int) (w : World) (hL : LaidD w) (ha : a.length ≤ 1000) (hb : b.length ≤ 1000) :
    Calls Tryd.prog 13 #[.string ⟨(phraseL what).toArray⟩, .string ⟨a.toArray⟩, .string ⟨b.toArray⟩, .int .i64 e] w fun r w' => r = .returned (.string ⟨(sayL what (quoteB a) (quoteB b) (msgOf e)).toArray⟩) ∧ Below w.heap.size w w' := by
  have hpl : (phraseL what).length ≤ 1000000 := by have := say_len what [65] [66] [69]; unfold phraseL; simp at this; omega
  have hsl := say_len what (quoteB a) (quoteB b) (msgOf e)
  have hqa := quoteB_len a
  have hqb := quoteB_len b
  have hme := msgOf_small e
  have hfs := fill_say hw (quoteB a) (quoteB b) (msgOf e)
  have hcw := cut_words hw
  obtain ⟨hws, hw1, hw2⟩ := words_small hw
  have hS := Split18_any (phraseL what) w hpl
  rw [hcw] at hS
  generalize phraseL what = ph at *
  generalize wordsP what = ws at *
  rw [← hfs] at hsl ⊢
  have hQa := fun W => Quote_any a W (by omega)
  have hQb := fun W => Quote_any b W (by omega)
  have hM := fun W (h : Laid W) => Message_any e W h
  have HL := Lib.hid hL
  clear hL hfs hcw hpl
  have HF : ∀ x ∈ ws, (fillW (quoteB a) (quoteB b) (msgOf e) x).length ≤ 5040 := fun x hx => fill_len (by omega) (by omega) (by omega) (hws x hx).2
  generalize quoteB a = qa at *
  generalize quoteB b = qb at *
  generalize msgOf e = me at *
  have hC : ((List.map (fun l => (⟨l.toArray⟩ : ByteArray)) ws).map Value.string).toArray = (strsV ws).toArray := by simp [strsV]
  rw [hC, List.length_map] at hS
  have b0 := below_new w (.cells (strsV ws).toArray 9)
  have B0 := Blk.new w 9 (strsV ws).toArray
  go_enter Tryd.func13, Tryd.ntmps13
  go_wp2_with fail
  refine hS.mono ?_
  rintro r w0 ⟨rfl, rfl⟩
  clear hS hC
  generalize hw1 : w.alloc (.cells (strsV ws).toArray 9) = w1 at *
  clear hw1
  generalize hgg : w.heap.size = g at *
  have HWS := Lib.hid hws
  have HFS := Lib.hid HF
  clear hws HF
  have HB0 := Lib.hid B0
  clear B0
  go_wp2
  go_loopw [17] (fun s17 wr => ∃ k : Nat, k ≤ ws.length ∧ s17 = .int .i64 (k : Int) ∧ Below g w wr ∧ Aside (Blk wr g 9 (strsV ((ws.take k).map (fillW qa qb me) ++ ws.drop k)).toArray)) (fun s17 _ => ws.length - (intOf s17).toNat)
  case atStart => exact ⟨0, Nat.zero_le _, rfl, b0, by show Blk _ _ _ _; simpa using HB0.out⟩
  case round =>
    clear HB0
    obtain ⟨k, hk, rfl, hb, HB⟩ := hrel
    by_cases hlt : k < ws.length
    · have hx := HWS.out _ (List.getElem_mem hlt)
      have hdr : ws.drop k = ws[k] :: ws.drop (k + 1) := List.drop_eq_getElem_cons hlt
      have hpl : ((ws.take k).map (fillW qa qb me)).length = k := by simp; omega
      have c1 : wr.cell? ⟨g, k, none⟩ = some (.string ⟨ws[k].toArray⟩) := by
        rw [HB.out.cell, List.getElem?_toArray]
        simp only [strsV, List.map_append, List.getElem?_append, List.length_map, List.length_take]
        rw [if_neg (by omega), hdr]
        simp [Nat.min_eq_left (Nat.le_of_lt hlt)]
      have f1 : wr.frozen? ⟨g, k, none⟩ = false := HB.out.frozen k
      have HBN : Hid (∀ (W : World) (y : List UInt8), Blk W g 9 (strsV ((ws.take k).map (fillW qa qb me) ++ ws.drop k)).toArray → fillW qa qb me ws[k] = y → Blk (W.setCell ⟨g, k, none⟩ (.string ⟨y.toArray⟩)) g 9 (strsV ((ws.take (k + 1)).map (fillW qa qb me) ++ ws.drop (k + 1))).toArray) := by
        intro W y hW hy
        have h1 := hW.set k (.string ⟨y.toArray⟩)
        have h2 : (strsV ((ws.take k).map (fillW qa qb me) ++ ws.drop k)).toArray.setIfInBounds k (.string ⟨y.toArray⟩) = (strsV ((ws.take (k + 1)).map (fillW qa qb me) ++ ws.drop (k + 1))).toArray := by
          rw [hdr, List.setIfInBounds_toArray, strsV, List.map_append, List.set_append_right _ _ (by simp; omega)]
          rw [show k - (List.map (fun l => Value.string ⟨l.toArray⟩) ((ws.take k).map (fillW qa qb me))).length = 0 by simp; omega]
          rw [List.map_cons, List.set_cons_zero, List.take_succ_eq_append_getElem hlt, List.map_append, strsV]
          simp [hy]
        rw [h2] at h1; exact h1
      have HBS : Hid (fillW qa qb me ws[k] = ws[k] → Blk wr g 9 (strsV ((ws.take (k + 1)).map (fillW qa qb me) ++ ws.drop (k + 1))).toArray) := by
        intro hy
        have h1 := HB.out
        rw [hdr] at h1
        rw [List.take_succ_eq_append_getElem hlt, List.map_append, List.append_assoc]
        simpa [hy] using h1
      generalize hxx : ws[k] = x at *
      clear hxx hdr hpl
      obtain ⟨c, r, rfl⟩ : ∃ c r, x = c :: r := by cases x with | nil => simp at hx | cons c r => exact ⟨c, r, rfl⟩
      have hr : r.length ≤ 40 := by simp at hx; omega
      have hext : (ByteArray.mk (c :: r).toArray).extract 1 (r.length + 1) = ⟨r.toArray⟩ := by
        rw [Lib.extract_eq]
        simp
      have hgs : g ≤ wr.heap.size := Nat.le_of_lt HB.out.lt
      by_cases hA : c = 65
      · subst hA
        go_wp2_with fail
        refine (hQa _).mono ?_
        rintro e2 w2 ⟨rfl, b2⟩
        have hb2 := hb.trans (b2.mono hgs)
        have B2 := HB.out.next b2
        have d1 : w2.cell? ⟨g, k, none⟩ = some (.string ⟨(65 :: r).toArray⟩) := (b2.cell (p := ⟨g, k, none⟩) HB.out.lt).trans c1
        have d2 : w2.frozen? ⟨g, k, none⟩ = false := B2.frozen k
        have HB3 := Lib.hid (HBN.out w2 (qa ++ r) B2 (by simp [fillW]))
        have hb3 : Below g w (w2.setCell ⟨g, k, none⟩ (.string ⟨(qa ++ r).toArray⟩)) := hb2.setCell (Nat.le_refl _) _
        have hcl : qa.length + r.length ≤ 1000000 := by omega
        clear c1 f1 HB HBN HBS B2
        go_wp2
        go_roundw
        case rel => exact ⟨k + 1, by omega, by go_num, hb3, HB3.out⟩
        case measure => simp [intOf]; omega
      by_cases hB : c = 66
      · subst hB
        go_wp2_with fail
        refine (hQb _).mono ?_
        rintro e2 w2 ⟨rfl, b2⟩
        have hb2 := hb.trans (b2.mono hgs)
        have B2 := HB.out.next b2
        have d1 : w2.cell? ⟨g, k, none⟩ = some (.string ⟨(66 :: r).toArray⟩) := (b2.cell (p := ⟨g, k, none⟩) HB.out.lt).trans c1
        have d2 : w2.frozen? ⟨g, k, none⟩ = false := B2.frozen k
        have HB3 := Lib.hid (HBN.out w2 (qb ++ r) B2 (by simp [fillW]))
        have hb3 : Below g w (w2.setCell ⟨g, k, none⟩ (.string ⟨(qb ++ r).toArray⟩)) := hb2.setCell (Nat.le_refl _) _
        have hcl : qb.length + r.length ≤ 1000000 := by omega
        clear c1 f1 HB HBN HBS B2
        go_wp2
        go_roundw
        case rel => exact ⟨k + 1, by omega, by go_num, hb3, HB3.out⟩
        case measure => simp [intOf]; omega
      by_cases hE : c = 69
      · subst hE
        go_wp2_with fail
        refine (hM _ (HL.out.1.next (hgg ▸ hb))).mono ?_
        rintro e2 w2 ⟨rfl, b2⟩
        have hb2 := hb.trans (b2.mono hgs)
        have B2 := HB.out.next b2
        have d1 : w2.cell? ⟨g, k, none⟩ = some (.string ⟨(69 :: r).toArray⟩) := (b2.cell (p := ⟨g, k, none⟩) HB.out.lt).trans c1
        have d2 : w2.frozen? ⟨g, k, none⟩ = false := B2.frozen k
        have HB3 := Lib.hid (HBN.out w2 (me ++ r) B2 (by simp [fillW]))
        have hb3 : Below g w (w2.setCell ⟨g, k, none⟩ (.string ⟨(me ++ r).toArray⟩)) := hb2.setCell (Nat.le_refl _) _
        have hcl : me.length + r.length ≤ 1000000 := by omega
        clear c1 f1 HB HBN HBS B2
        go_wp2
        go_roundw
        case rel => exact ⟨k + 1, by omega, by go_num, hb3, HB3.out⟩
        case measure => simp [intOf]; omega
      have HB3 := Lib.hid (HBS.out (by simp [fillW, hA, hB, hE]))
      have e1 : ((c.toNat : Int) == 65) = false := by rw [beq_eq_false_iff_ne]; intro e0; exact hA (UInt8.toNat_inj.1 (by simp; omega))
      have e2 : ((c.toNat : Int) == 66) = false := by rw [beq_eq_false_iff_ne]; intro e0; exact hB (UInt8.toNat_inj.1 (by simp; omega))
      have e3 : ((c.toNat : Int) == 69) = false := by rw [beq_eq_false_iff_ne]; intro e0; exact hE (UInt8.toNat_inj.1 (by simp; omega))
      clear HB HBN HBS hA hB hE
      go_wp2
      go_roundw
      case rel => exact ⟨k + 1, by omega, by go_num, hb, HB3.out⟩
      case measure => simp [intOf]; omega
    · obtain rfl : k = ws.length := by omega
      have HS : Strs wr (.slice (some ⟨g, 0, none⟩) ws.length ws.length) (ws.map (fillW qa qb me)) := by
        have h1 := HB.out
        rw [List.take_length, List.drop_length, List.append_nil] at h1
        refine ⟨_, ws.length, by simp, by simp [maxLen]; omega, fun _ => ⟨g, 0, rfl, h1.lt, fun i hi => ?_⟩⟩
        rw [h1.cell, Nat.zero_add]
        simp at hi
        simp [strsV, List.getElem?_eq_getElem hi]
      have hgs : g ≤ wr.heap.size := Nat.le_of_lt HB.out.lt
      have hJ := JoinP_any _ _ _ HS (by simp; omega) (by omega)
      clear HS HB
      go_wp2_with fail
      refine hJ.mono ?_
      rintro e2 w2 ⟨rfl, b2⟩
      go_wp2
      go_ret
      exact ⟨rfl, hgg ▸ (hb.trans (b2.mono hgs))⟩

set_option maxHeartbeats 2000000 in
theorem Tell_any (kind what : Int) (a b : List UInt8) (e : Int) (w : World) (hL : LaidD w) (ha : a.length ≤ 1000) (hb : b.length ≤ 1000) :
    Calls Tryd.prog 7 #[.int .i64 kind, .int .i64 what, .string ⟨a.toArray⟩, .string ⟨b.toArray⟩, .int .i64 e] w fun r w' => r = .returned (.string ⟨(tellL kind what a b (msgOf e)).toArray⟩) ∧ Below w.heap.size w w' := by
  have hN := fun W (h : LaidN W) => Name18_any kind W h
  have hP := fun W (h : LaidD W) => Phrase_any what W h
  have HL := Lib.hid hL
  clear hL
  by_cases hk : 1 ≤ kind ∧ kind ≤ 5
  · have hk0 := name_ne hk.1 hk.2
    by_cases hw : 1 ≤ what ∧ what ≤ 22
    · have hF := fun W (h : LaidD W) => filled_any what hw a b e W h ha hb
      have hp0 : phraseL what ≠ [] := by
        unfold phraseL
        rcases say_cases hw with rfl | rfl | rfl | rfl | rfl | rfl | rfl | rfl | rfl | rfl | rfl | rfl | rfl | rfl | rfl | rfl | rfl | rfl | rfl | rfl | rfl | rfl
        all_goals simp [sayL]
      have HT : Hid (tellL kind what a b (msgOf e) = lineB [nameK kind, sayL what (quoteB a) (quoteB b) (msgOf e)]) := by
        show _ = _
        unfold tellL
        rw [if_neg (fun h => h.elim hk0 (say_ne hw a b (msgOf e)))]
        simp [lineB]
      have hnl := nameK_len kind
      have hsl := say_len what (quoteB a) (quoteB b) (msgOf e)
      have hqa := quoteB_len a
      have hqb := quoteB_len b
      have hme := msgOf_small e
      generalize nameK kind = nk at *
      generalize phraseL what = ph at *
      generalize sayL what (quoteB a) (quoteB b) (msgOf e) = sy at *
      have e1 : nk.isEmpty = false := by simpa using hk0
      have e2 : ph.isEmpty = false := by simpa using hp0
      have e3 : (nk == []) = false := by simpa using hk0
      have e4 : (ph == []) = false := by simpa using hp0
      go_enter Tryd.func7, Tryd.ntmps7
      go_wp2_with fail
      refine (hN _ HL.out.2).mono ?_
      rintro r1 w1 ⟨rfl, b1⟩
      go_wp2_with fail
      refine (hP _ (HL.out.next b1)).mono ?_
      rintro r2 w2 ⟨rfl, b2⟩
      replace b2 := b1.trans (b2.mono b1.size)
      clear b1
      go_wp2_with fail
      refine (hF _ (HL.out.next b2)).mono ?_
      rintro r3 w3 ⟨rfl, b3⟩
      replace b3 := b2.trans (b3.mono b2.size)
      clear b2
      go_wp2_with fail
      have b4 := b3.trans ((below_new w3 (.cells #[.string ⟨nk.toArray⟩, .string ⟨sy.toArray⟩] 9)).mono b3.size)
      refine (Line_any [nk, sy] _ _ (new_strs w3 9 #[.string ⟨nk.toArray⟩, .string ⟨sy.toArray⟩] [nk, sy] 2 2 rfl rfl (by simp [maxLen])) (by simp) (by simp [lineB]; omega)).mono ?_
      rintro r4 w4 ⟨rfl, b5⟩
      have HT2 := HT.out
      go_wp2
      go_ret
      exact ⟨by rw [HT2]; rfl, b4.trans (b5.mono b4.size)⟩
    · have hp0 : phraseL what = [] := say_none hw _ _ _
      have HT : Hid (tellL kind what a b (msgOf e) = []) := by
        show _ = _
        unfold tellL
        rw [if_pos (Or.inr (say_none hw _ _ _))]
      rw [hp0] at hP
      clear hp0
      generalize nameK kind = nk at *
      have e1 : nk.isEmpty = false := by simpa using hk0
      have e3 : (nk == []) = false := by simpa using hk0
      go_enter Tryd.func7, Tryd.ntmps7
      go_wp2_with fail
      refine (hN _ HL.out.2).mono ?_
      rintro r1 w1 ⟨rfl, b1⟩
      go_wp2_with fail
      refine (hP _ (HL.out.next b1)).mono ?_
      rintro r2 w2 ⟨rfl, b2⟩
      replace b2 := b1.trans (b2.mono b1.size)
      go_wp2
      go_ret
      exact ⟨by rw [HT.out]; rfl, b2⟩
  · have hk0 := name_no hk
    have HT : Hid (tellL kind what a b (msgOf e) = []) := by
      show _ = _
      unfold tellL
      rw [if_pos (Or.inl hk0)]
    rw [hk0] at hN
    clear hk0
    generalize phraseL what = ph at *
    go_enter Tryd.func7, Tryd.ntmps7
    go_wp2_with fail
    refine (hN _ HL.out.2).mono ?_
    rintro r1 w1 ⟨rfl, b1⟩
    go_wp2_with fail
    refine (hP _ (HL.out.next b1)).mono ?_
    rintro r2 w2 ⟨rfl, b2⟩
    replace b2 := b1.trans (b2.mono b1.size)
    go_wp2
    go_ret
    exact ⟨by rw [HT.out]; rfl, b2⟩
end Go.Proofs.YtbaclgnohnmdgaaDoor
