/- Texts put together: WalkP18, Awake18, LawBase18. -/
import Derived.Test.YteeahhklbgnepaaDoorQMWalkO18
import Derived.Test.YteeahhklbgnepaaDoorTie
import Derived.Test.YteeahhklbgnepaaDoorCards
import Derived.ProofKit
import Derived.OpenShut
import Derived.ShutString
import Derived.ChangeOld
import Derived.SliceStrings
import Derived.Lay
import Derived.LaidMore
import Derived.Lib.LaidTab
import Derived.Lib.SmallJoins
import Derived.SevenTiedAt
set_option linter.unusedVariables false
set_option linter.unusedSimpArgs false
/- Walks: the program's Tell. -/
set_option linter.unusedVariables false
set_option linter.unusedSimpArgs false
namespace Go.Proofs.YteeahhklbgnepaaDoor
open Go.RowKit
set_option linter.unusedVariables false

theorem fill_len {a b m x : List UInt8} (ha : a.length ≤ 5000) (hb : b.length ≤ 5000) (hm : m.length ≤ 5000) (hx : x.length ≤ 40) : (fillW a b m x).length ≤ 5040 := by
  cases x with
  | nil => simp [fillW]
  | cons c r =>
    simp only [fillW]
    simp at hx
    split
    · simp; omega
    · split
      · simp; omega
      · split
        · simp; omega
        · simp; omega

set_option maxHeartbeats 4000000 in
theorem filled_any (what : Int) (hw : 1 ≤ what ∧ what ≤ 22) (a b : List UInt8) (e : Int) (w : World) (hL : LaidD w) (ha : a.length ≤ 1000) (hb : b.length ≤ 1000) :
    Calls Tryd.prog 13 #[.string ⟨(phraseL what).toArray⟩, .string ⟨a.toArray⟩, .string ⟨b.toArray⟩, .int .i64 e] w fun r w' => r = .returned (.string ⟨(sayL what (quoteB a) (quoteB b) (msgOf e)).toArray⟩) ∧ Below w.heap.size w w' := by
  have hpl : (phraseL what).length ≤ 1000000 := by have := say_len what [65] [66] [69]; unfold phraseL; simp at this; omega
  have hsl := say_len what (quoteB a) (quoteB b) (msgOf e)
  have hqa := quoteB_len a
  have hqb := quoteB_len b
  have hme := msgOf_small e
  have hfs := fill_say hw (quoteB a) (quoteB b) (msgOf e)
  have hcw := cut_words hw
  obtain ⟨hws, hw1, hw2⟩ := words_small hw
  have hS := Split18_any (phraseL what) w hpl
  rw [hcw] at hS
  generalize phraseL what = ph at *
  generalize wordsP what = ws at *
  rw [← hfs] at hsl ⊢
  have hQa := fun W => Quote_any a W (by omega)
  have hQb := fun W => Quote_any b W (by omega)
  have hM := fun W (h : Laid W) => Message_any e W h
  have HL := Lib.hid hL
  clear hL hfs hcw hpl
  have HF : ∀ x ∈ ws, (fillW (quoteB a) (quoteB b) (msgOf e) x).length ≤ 5040 := fun x hx => fill_len (by omega) (by omega) (by omega) (hws x hx).2
  generalize quoteB a = qa at *
  generalize quoteB b = qb at *
  generalize msgOf e = me at *
  have hC : ((List.map (fun l => (⟨l.toArray⟩ : ByteArray)) ws).map Value.string).toArray = (strsV ws).toArray := by simp [strsV]
  rw [hC, List.length_map] at hS
  have b0 := below_new w (.cells (strsV ws).toArray 9)
  have B0 := Blk.new w 9 (strsV ws).toArray
  go_enter Tryd.func13, Tryd.ntmps13
  go_wp2_with fail
  refine hS.mono ?_
  rintro r w0 ⟨rfl, rfl⟩
  clear hS hC
  generalize hw1 : w.alloc (.cells (strsV ws).toArray 9) = w1 at *
  clear hw1
  generalize hgg : w.heap.size = g at *
  have HWS := Lib.hid hws
  have HFS := Lib.hid HF
  clear hws HF
  have HB0 := Lib.hid B0
  clear B0
  go_wp2
  go_loopw [17] (fun s17 wr => ∃ k : Nat, k ≤ ws.length ∧ s17 = .int .i64 (k : Int) ∧ Below g w wr ∧ Aside (Blk wr g 9 (strsV ((ws.take k).map (fillW qa qb me) ++ ws.drop k)).toArray)) (fun s17 _ => ws.length - (intOf s17).toNat)
  case atStart => exact ⟨0, Nat.zero_le _, rfl, b0, by show Blk _ _ _ _; simpa using HB0.out⟩
  case round =>
    clear HB0
    obtain ⟨k, hk, rfl, hb, HB⟩ := hrel
    by_cases hlt : k < ws.length
    · have hx := HWS.out _ (List.getElem_mem hlt)
      have hdr : ws.drop k = ws[k] :: ws.drop (k + 1) := List.drop_eq_getElem_cons hlt
      have hpl : ((ws.take k).map (fillW qa qb me)).length = k := by simp; omega
      have c1 : wr.cell? ⟨g, k, none⟩ = some (.string ⟨ws[k].toArray⟩) := by
        rw [HB.out.cell, List.getElem?_toArray]
        simp only [strsV, List.map_append, List.getElem?_append, List.length_map, List.length_take]
        rw [if_neg (by omega), hdr]
        simp [Nat.min_eq_left (Nat.le_of_lt hlt)]
      have f1 : wr.frozen? ⟨g, k, none⟩ = false := HB.out.frozen k
      have HBN : Hid (∀ (W : World) (y : List UInt8), Blk W g 9 (strsV ((ws.take k).map (fillW qa qb me) ++ ws.drop k)).toArray → fillW qa qb me ws[k] = y → Blk (W.setCell ⟨g, k, none⟩ (.string ⟨y.toArray⟩)) g 9 (strsV ((ws.take (k + 1)).map (fillW qa qb me) ++ ws.drop (k + 1))).toArray) := by
        intro W y hW hy
        have h1 := hW.set k (.string ⟨y.toArray⟩)
        have h2 : (strsV ((ws.take k).map (fillW qa qb me) ++ ws.drop k)).toArray.setIfInBounds k (.string ⟨y.toArray⟩) = (strsV ((ws.take (k + 1)).map (fillW qa qb me) ++ ws.drop (k + 1))).toArray := by
          rw [hdr, List.setIfInBounds_toArray, strsV, List.map_append, List.set_append_right _ _ (by simp; omega)]
          rw [show k - (List.map (fun l => Value.string ⟨l.toArray⟩) ((ws.take k).map (fillW qa qb me))).length = 0 by simp; omega]
          rw [List.map_cons, List.set_cons_zero, List.take_succ_eq_append_getElem hlt, List.map_append, strsV]
          simp [hy]
        rw [h2] at h1; exact h1
      have HBS : Hid (fillW qa qb me ws[k] = ws[k] → Blk wr g 9 (strsV ((ws.take (k + 1)).map (fillW qa qb me) ++ ws.drop (k + 1))).toArray) := by
        intro hy
        have h1 := HB.out
        rw [hdr] at h1
        rw [List.take_succ_eq_append_getElem hlt, List.map_append, List.append_assoc]
        simpa [hy] using h1
      generalize hxx : ws[k] = x at *
      clear hxx hdr hpl
      obtain ⟨c, r, rfl⟩ : ∃ c r, x = c :: r := by cases x with | nil => simp at hx | cons c r => exact ⟨c, r, rfl⟩
      have hr : r.length ≤ 40 := by simp at hx; omega
      have hext : (ByteArray.mk (c :: r).toArray).extract 1 (r.length + 1) = ⟨r.toArray⟩ := by
        rw [Lib.extract_eq]
        simp
      have hgs : g ≤ wr.heap.size := Nat.le_of_lt HB.out.lt
      by_cases hA : c = 65
      · subst hA
        go_wp2_with fail
        refine (hQa _).mono ?_
        rintro e2 w2 ⟨rfl, b2⟩
        have hb2 := hb.trans (b2.mono hgs)
        have B2 := HB.out.next b2
        have d1 : w2.cell? ⟨g, k, none⟩ = some (.string ⟨(65 :: r).toArray⟩) := (b2.cell (p := ⟨g, k, none⟩) HB.out.lt).trans c1
        have d2 : w2.frozen? ⟨g, k, none⟩ = false := B2.frozen k
        have HB3 := Lib.hid (HBN.out w2 (qa ++ r) B2 (by simp [fillW]))
        have hb3 : Below g w (w2.setCell ⟨g, k, none⟩ (.string ⟨(qa ++ r).toArray⟩)) := hb2.setCell (Nat.le_refl _) _
        have hcl : qa.length + r.length ≤ 1000000 := by omega
        clear c1 f1 HB HBN HBS B2
        go_wp2
        go_roundw
        case rel => exact ⟨k + 1, by omega, by go_num, hb3, HB3.out⟩
        case measure => simp [intOf]; omega
      by_cases hB : c = 66
      · subst hB
        go_wp2_with fail
        refine (hQb _).mono ?_
        rintro e2 w2 ⟨rfl, b2⟩
        have hb2 := hb.trans (b2.mono hgs)
        have B2 := HB.out.next b2
        have d1 : w2.cell? ⟨g, k, none⟩ = some (.string ⟨(66 :: r).toArray⟩) := (b2.cell (p := ⟨g, k, none⟩) HB.out.lt).trans c1
        have d2 : w2.frozen? ⟨g, k, none⟩ = false := B2.frozen k
        have HB3 := Lib.hid (HBN.out w2 (qb ++ r) B2 (by simp [fillW]))
        have hb3 : Below g w (w2.setCell ⟨g, k, none⟩ (.string ⟨(qb ++ r).toArray⟩)) := hb2.setCell (Nat.le_refl _) _
        have hcl : qb.length + r.length ≤ 1000000 := by omega
        clear c1 f1 HB HBN HBS B2
        go_wp2
        go_roundw
        case rel => exact ⟨k + 1, by omega, by go_num, hb3, HB3.out⟩
        case measure => simp [intOf]; omega
      by_cases hE : c = 69
      · subst hE
        go_wp2_with fail
        refine (hM _ (HL.out.1.next (hgg ▸ hb))).mono ?_
        rintro e2 w2 ⟨rfl, b2⟩
        have hb2 := hb.trans (b2.mono hgs)
        have B2 := HB.out.next b2
        have d1 : w2.cell? ⟨g, k, none⟩ = some (.string ⟨(69 :: r).toArray⟩) := (b2.cell (p := ⟨g, k, none⟩) HB.out.lt).trans c1
        have d2 : w2.frozen? ⟨g, k, none⟩ = false := B2.frozen k
        have HB3 := Lib.hid (HBN.out w2 (me ++ r) B2 (by simp [fillW]))
        have hb3 : Below g w (w2.setCell ⟨g, k, none⟩ (.string ⟨(me ++ r).toArray⟩)) := hb2.setCell (Nat.le_refl _) _
        have hcl : me.length + r.length ≤ 1000000 := by omega
        clear c1 f1 HB HBN HBS B2
        go_wp2
        go_roundw
        case rel => exact ⟨k + 1, by omega, by go_num, hb3, HB3.out⟩
        case measure => simp [intOf]; omega
      have HB3 := Lib.hid (HBS.out (by simp [fillW, hA, hB, hE]))
      have e1 : ((c.toNat : Int) == 65) = false := by rw [beq_eq_false_iff_ne]; intro e0; exact hA (UInt8.toNat_inj.1 (by simp; omega))
      have e2 : ((c.toNat : Int) == 66) = false := by rw [beq_eq_false_iff_ne]; intro e0; exact hB (UInt8.toNat_inj.1 (by simp; omega))
      have e3 : ((c.toNat : Int) == 69) = false := by rw [beq_eq_false_iff_ne]; intro e0; exact hE (UInt8.toNat_inj.1 (by simp; omega))
      clear HB HBN HBS hA hB hE
      go_wp2
      go_roundw
      case rel => exact ⟨k + 1, by omega, by go_num, hb, HB3.out⟩
      case measure => simp [intOf]; omega
    · obtain rfl : k = ws.length := by omega
      have HS : Strs wr (.slice (some ⟨g, 0, none⟩) ws.length ws.length) (ws.map (fillW qa qb me)) := by
        have h1 := HB.out
        rw [List.take_length, List.drop_length, List.append_nil] at h1
        refine ⟨_, ws.length, by simp, by simp [maxLen]; omega, fun _ => ⟨g, 0, rfl, h1.lt, fun i hi => ?_⟩⟩
        rw [h1.cell, Nat.zero_add]
        simp at hi
        simp [strsV, List.getElem?_eq_getElem hi]
      have hgs : g ≤ wr.heap.size := Nat.le_of_lt HB.out.lt
      have hJ := JoinP_any _ _ _ HS (by simp; omega) (by omega)
      clear HS HB
      go_wp2_with fail
      refine hJ.mono ?_
      rintro e2 w2 ⟨rfl, b2⟩
      go_wp2
      go_ret
      exact ⟨rfl, hgg ▸ (hb.trans (b2.mono hgs))⟩

set_option maxHeartbeats 2000000 in
theorem Tell_any (kind what : Int) (a b : List UInt8) (e : Int) (w : World) (hL : LaidD w) (ha : a.length ≤ 1000) (hb : b.length ≤ 1000) :
    Calls Tryd.prog 7 #[.int .i64 kind, .int .i64 what, .string ⟨a.toArray⟩, .string ⟨b.toArray⟩, .int .i64 e] w fun r w' => r = .returned (.string ⟨(tellL kind what a b (msgOf e)).toArray⟩) ∧ Below w.heap.size w w' := by
  have hN := fun W (h : LaidN W) => Name18_any kind W h
  have hP := fun W (h : LaidD W) => Phrase_any what W h
  have HL := Lib.hid hL
  clear hL
  by_cases hk : 1 ≤ kind ∧ kind ≤ 5
  · have hk0 := name_ne hk.1 hk.2
    by_cases hw : 1 ≤ what ∧ what ≤ 22
    · have hF := fun W (h : LaidD W) => filled_any what hw a b e W h ha hb
      have hp0 : phraseL what ≠ [] := by
        unfold phraseL
        rcases say_cases hw with rfl | rfl | rfl | rfl | rfl | rfl | rfl | rfl | rfl | rfl | rfl | rfl | rfl | rfl | rfl | rfl | rfl | rfl | rfl | rfl | rfl | rfl
        all_goals simp [sayL]
      have HT : Hid (tellL kind what a b (msgOf e) = lineB [nameK kind, sayL what (quoteB a) (quoteB b) (msgOf e)]) := by
        show _ = _
        unfold tellL
        rw [if_neg (fun h => h.elim hk0 (say_ne hw a b (msgOf e)))]
        simp [lineB]
      have hnl := nameK_len kind
      have hsl := say_len what (quoteB a) (quoteB b) (msgOf e)
      have hqa := quoteB_len a
      have hqb := quoteB_len b
      have hme := msgOf_small e
      generalize nameK kind = nk at *
      generalize phraseL what = ph at *
      generalize sayL what (quoteB a) (quoteB b) (msgOf e) = sy at *
      have e1 : nk.isEmpty = false := by simpa using hk0
      have e2 : ph.isEmpty = false := by simpa using hp0
      have e3 : (nk == []) = false := by simpa using hk0
      have e4 : (ph == []) = false := by simpa using hp0
      go_enter Tryd.func7, Tryd.ntmps7
      go_wp2_with fail
      refine (hN _ HL.out.2).mono ?_
      rintro r1 w1 ⟨rfl, b1⟩
      go_wp2_with fail
      refine (hP _ (HL.out.next b1)).mono ?_
      rintro r2 w2 ⟨rfl, b2⟩
      replace b2 := b1.trans (b2.mono b1.size)
      clear b1
      go_wp2_with fail
      refine (hF _ (HL.out.next b2)).mono ?_
      rintro r3 w3 ⟨rfl, b3⟩
      replace b3 := b2.trans (b3.mono b2.size)
      clear b2
      go_wp2_with fail
      have b4 := b3.trans ((below_new w3 (.cells #[.string ⟨nk.toArray⟩, .string ⟨sy.toArray⟩] 9)).mono b3.size)
      refine (Line_any [nk, sy] _ _ (new_strs w3 9 #[.string ⟨nk.toArray⟩, .string ⟨sy.toArray⟩] [nk, sy] 2 2 rfl rfl (by simp [maxLen])) (by simp) (by simp [lineB]; omega)).mono ?_
      rintro r4 w4 ⟨rfl, b5⟩
      have HT2 := HT.out
      go_wp2
      go_ret
      exact ⟨by rw [HT2]; rfl, b4.trans (b5.mono b4.size)⟩
    · have hp0 : phraseL what = [] := say_none hw _ _ _
      have HT : Hid (tellL kind what a b (msgOf e) = []) := by
        show _ = _
        unfold tellL
        rw [if_pos (Or.inr (say_none hw _ _ _))]
      rw [hp0] at hP
      clear hp0
      generalize nameK kind = nk at *
      have e1 : nk.isEmpty = false := by simpa using hk0
      have e3 : (nk == []) = false := by simpa using hk0
      go_enter Tryd.func7, Tryd.ntmps7
      go_wp2_with fail
      refine (hN _ HL.out.2).mono ?_
      rintro r1 w1 ⟨rfl, b1⟩
      go_wp2_with fail
      refine (hP _ (HL.out.next b1)).mono ?_
      rintro r2 w2 ⟨rfl, b2⟩
      replace b2 := b1.trans (b2.mono b1.size)
      go_wp2
      go_ret
      exact ⟨by rw [HT.out]; rfl, b2⟩
  · have hk0 := name_no hk
    have HT : Hid (tellL kind what a b (msgOf e) = []) := by
      show _ = _
      unfold tellL
      rw [if_pos (Or.inl hk0)]
    rw [hk0] at hN
    clear hk0
    generalize phraseL what = ph at *
    go_enter Tryd.func7, Tryd.ntmps7
    go_wp2_with fail
    refine (hN _ HL.out.2).mono ?_
    rintro r1 w1 ⟨rfl, b1⟩
    go_wp2_with fail
    refine (hP _ (HL.out.next b1)).mono ?_
    rintro r2 w2 ⟨rfl, b2⟩
    replace b2 := b1.trans (b2.mono b1.size)
    go_wp2
    go_ret
    exact ⟨by rw [HT.out]; rfl, b2⟩
end Go.Proofs.YteeahhklbgnepaaDoor

/- Walks: awake, the answers that the document fixes for layer 18. -/
set_option linter.unusedVariables false
set_option linter.unusedSimpArgs false
namespace Go.Proofs.YteeahhklbgnepaaDoor
open Go.RowKit

theorem aw_tell (kind what : Int) (a b : List UInt8) (e : Int) (x : List UInt8) (w : World) (hL : LaidD w) (ha : a.length ≤ 1000) (hb : b.length ≤ 1000) (h : tellL kind what a b (msgOf e) = x) :
    Calls Tryd.prog 7 #[.int .i64 kind, .int .i64 what, .string ⟨a.toArray⟩, .string ⟨b.toArray⟩, .int .i64 e] w fun r w' => r = .returned (.string ⟨x.toArray⟩) ∧ Below w.heap.size w w' := by
  have := Tell_any kind what a b e w hL ha hb
  rw [h] at this; exact this
theorem aw_phrase (what : Int) (x : List UInt8) (w : World) (hL : LaidD w) (h : phraseL what = x) : Calls Tryd.prog 9 #[.int .i64 what] w fun r w' => r = .returned (.string ⟨x.toArray⟩) ∧ Below w.heap.size w w' := by
  have := Phrase_any what w hL
  rw [h] at this; exact this

set_option maxHeartbeats 2000000 in
theorem awake18 (w : World) (hL : LaidD w) : Calls Tryd.prog 6 #[] w fun e w' => e = .returned (.bool true) ∧ Below w.heap.size w w' := by
  have HL := Lib.hid hL
  clear hL
  go_enter Tryd.func6, Tryd.ntmps6
  go_wp2_with fail
  refine (aw_tell 2 2 [97, 32, 98] [] 1 [114, 109, 58, 32, 99, 97, 110, 110, 111, 116, 32, 114, 101, 109, 111, 118, 101, 32, 34, 97, 32, 98, 34, 58, 32, 78, 111, 32, 115, 117, 99, 104, 32, 102, 105, 108, 101, 32, 111, 114, 32, 100, 105, 114, 101, 99, 116, 111, 114, 121] _ HL.out (by decide) (by decide) (by decide +kernel)).mono ?_
  rintro e w1 ⟨rfl, h1⟩
  go_wp2_with fail
  refine (aw_tell 5 19 [97] [98] 0 [99, 112, 58, 32, 99, 97, 110, 110, 111, 116, 32, 99, 111, 112, 121, 32, 97, 32, 100, 105, 114, 101, 99, 116, 111, 114, 121, 44, 32, 34, 97, 34, 44, 32, 105, 110, 116, 111, 32, 105, 116, 115, 101, 108, 102, 44, 32, 34, 98, 34] _ (HL.out.next h1) (by decide) (by decide) (by decide +kernel)).mono ?_
  rintro e w2 ⟨rfl, h2⟩
  replace h2 := h1.trans (h2.mono h1.size)
  clear h1
  go_wp2_with fail
  refine (aw_phrase 9 [65, 32, 97, 110, 100, 32, 66, 32, 97, 114, 101, 32, 116, 104, 101, 32, 115, 97, 109, 101, 32, 102, 105, 108, 101] _ (HL.out.next h2) (by decide +kernel)).mono ?_
  rintro e w3 ⟨rfl, h3⟩
  replace h3 := h2.trans (h3.mono h2.size)
  clear h2
  go_wp2_with fail
  refine (aw_tell 0 1 [] [] 0 [] _ (HL.out.next h3) (by decide) (by decide) (by decide +kernel)).mono ?_
  rintro e w4 ⟨rfl, h4⟩
  replace h4 := h3.trans (h4.mono h3.size)
  clear h3
  go_wp2_with fail
  refine (aw_phrase 23 [] _ (HL.out.next h4) (by decide +kernel)).mono ?_
  rintro e w5 ⟨rfl, h5⟩
  replace h5 := h4.trans (h5.mono h4.size)
  clear h4
  go_wp2
  go_ret
  exact ⟨rfl, h5⟩
end Go.Proofs.YteeahhklbgnepaaDoor

/- What stage 18's laws share: the tables of errs and args, as the row lists them, lie in memory. -/
set_option linter.unusedVariables false
set_option linter.unusedSimpArgs false
namespace Go.Proofs.YteeahhklbgnepaaDoor
open Go.ChangeShapes Go.WideShapes Go.ChangeAt Go.RowKit

theorem laidOut : laidOutB Tryd.prog = true := by kernel_rfl

/-- An array of texts that reads as these has them, cell for cell. -/
theorem strTab_cells {H : Type} {enc : TypeId × Value → H} {P : Program} {w : World} {base : Nat} {sp : Nat → Bool} {held : Bool} {fuel : Nat} {t e : TypeId} {n : Nat} {cs : List Value} {ls : List (List UInt8)} {p : List MemPlace}
    (ht : P.underlying t = some (.array n e)) (he : P.underlying e = some .string) (hce : P.cellsOf e = 1)
    (h : DataW.trod enc P w base sp held fuel t cs = some (.agg (ls.map fun l => .lit (.string l)), p)) : ∀ i, i < n → cs[i]? = some (.string ⟨(ls.getD i []).toArray⟩) := by
  obtain ⟨xs, m, rfl, hx, hlen, hxl, hel⟩ := DataW.trod_array ht h
  have hm : xs.map (·.1) = ls.map fun l => (DataW.lit (.string l) : DataW H) := by
    have := congrArg Prod.fst hx
    simpa using this.symm
  intro i hi
  have hi2 : i < xs.length := by omega
  have hi3 : i < ls.length := by
    have := congrArg List.length hm
    simp at this; omega
  have h1 := hel i hi
  rw [List.getElem?_eq_getElem hi2] at h1
  obtain ⟨s, hc, hs, _⟩ := DataW.trod_string he h1
  have h2 : (xs.map (·.1))[i]? = (ls.map fun l => (DataW.lit (.string l) : DataW H))[i]? := by rw [hm]
  rw [List.getElem?_map, List.getElem?_map, List.getElem?_eq_getElem hi2, List.getElem?_eq_getElem hi3, hs] at h2
  simp at h2
  rw [hce] at hc
  have h3 : cs[i]? = some (.string s) := by
    have := congrArg (·[0]?) hc
    simpa [List.getElem?_take, List.getElem?_drop] using this
  rw [h3, List.getD, List.getElem?_eq_getElem hi3, Option.getD_some, ← h2]

theorem cell_of_cut {cs : List Value} {a j : Nat} {v : Value} (hj : j < 4) (h : (((cs.drop a).take 4).drop j).take 1 = [v]) : cs[a + j]? = some v := by
  have h2 := congrArg (·[0]?) h
  simpa [List.getElem?_take, List.getElem?_drop, hj] using h2
theorem struct_cells18 {H : Type} {enc : TypeId × Value → H} {w : World} {base : Nat} {sp : Nat → Bool} {held : Bool} {fuel a : Nat} {cs : List Value} {s t : List UInt8} {b : Bool} {z : Int} {x : DataW H × List MemPlace}
    (h : DataW.trod enc Tryd.prog w base sp held fuel 35 ((cs.drop a).take 4) = some x) (hx : x.1 = .agg [.lit (.string s), .lit (.string t), .lit (.bool b), .lit (.int .i64 z)]) :
    cs[a]? = some (.string ⟨s.toArray⟩) ∧ cs[a + 1]? = some (.string ⟨t.toArray⟩) ∧ cs[a + 2]? = some (.bool b) ∧ cs[a + 3]? = some (.int .i64 z) := by
  obtain ⟨y0, y1, y2, y3, n, rfl, _, h0, h1, h2, h3⟩ := Joins.trod_struct4 Tryd.underlying35 h
  obtain ⟨s0, e0, rfl, _⟩ := DataW.trod_string Tryd.underlying9 h0
  obtain ⟨s1, e1, rfl, _⟩ := DataW.trod_string Tryd.underlying9 h1
  obtain ⟨s2, e2, rfl⟩ := DataW.trod_bool Tryd.underlying4 h2
  obtain ⟨s3, e3, rfl, _⟩ := DataW.trod_int Tryd.underlying3 h3
  simp at hx
  obtain ⟨rfl, rfl, rfl, rfl⟩ := hx
  exact ⟨cell_of_cut (j := 0) (by omega) e0, cell_of_cut (j := 1) (by omega) e1, cell_of_cut (j := 2) (by omega) e2, cell_of_cut (j := 3) (by omega) e3⟩


theorem of_laid {W : World} (h : laidMetH Tryd.prog [("unicode/utf8.acceptRanges", Rows.laid_unicode_utf8_acceptRanges), ("drayman/errs.messages", Rows.laid_drayman_errs_messages), ("drayman/args.commands", Rows.laid_drayman_args_commands), ("unicode/utf8.first", Rows.laid_unicode_utf8_first)] W) : LaidD W := by
  rw [MakeChecks.laidMetH_plain _ _ _ (by kernel_rfl)] at h
  obtain ⟨ps, ⟨g0, t0, cs0, fuel0, p0, q0, hg0, ht0, hvar0, hd0, ⟨g1, t1, cs1, fuel1, p1, q1, hg1, ht1, hvar1, hd1, ⟨g2, t2, cs2, fuel2, p2, q2, hg2, ht2, hvar2, hd2, _, _⟩, _⟩, _⟩, _⟩ := h
  constructor
  · clear hg0 ht0 hvar0 hd0 hg2 ht2 hvar2 hd2
    obtain rfl := Option.some.inj ((show Tryd.prog.globalNamed "drayman/errs.messages" = some 1 by kernel_rfl).symm.trans hg1)
    obtain rfl := Option.some.inj ((show (Tryd.prog.globals[1]?).map (·.type) = some 46 by kernel_rfl).symm.trans ht1)
    have hc := strTab_cells (ls := msgs) Tryd.underlying46 Tryd.underlying9 (by kernel_rfl) hd1
    have hall : ∀ i, i < 14 → W.cell? ⟨1, i, none⟩ = some (.string ⟨(msgAt i).toArray⟩) := by
      intro i hi
      have := World.var?_cell hg1 hvar1 i
      rw [this, ← Array.getElem?_toList, hc i hi]
      rfl
    exact ⟨World.block_lt_of_cell? W _ (hall 0 (by decide)), hall⟩
  · clear hg0 ht0 hvar0 hd0 hg1 ht1 hvar1 hd1
    obtain rfl := Option.some.inj ((show Tryd.prog.globalNamed "drayman/args.commands" = some 0 by kernel_rfl).symm.trans hg2)
    obtain rfl := Option.some.inj ((show (Tryd.prog.globals[0]?).map (·.type) = some 36 by kernel_rfl).symm.trans ht2)
    obtain ⟨xs, m, rfl, hx, hlen, hxl, hel⟩ := DataW.trod_array Tryd.underlying36 hd2
    rw [show Tryd.prog.cellsOf 35 = 4 by kernel_rfl] at hel
    have hm := (congrArg Prod.fst hx).symm
    unfold Rows.laid_drayman_args_commands at hm
    simp only [DataW.agg.injEq] at hm
    have hall : ∀ (i : Nat) (hi : i < 6), cs2.toList[i * 4]? = some (.string ⟨(nameK (i : Int)).toArray⟩) := by
      intro i hi
      have hi2 : i < xs.length := by omega
      have h1 := hel i hi
      rw [List.getElem?_eq_getElem hi2] at h1
      have h2 := congrArg (·[i]?) hm
      simp only [List.getElem?_map, List.getElem?_eq_getElem hi2, Option.map_some] at h2
      have hc : i = 0 ∨ i = 1 ∨ i = 2 ∨ i = 3 ∨ i = 4 ∨ i = 5 := by omega
      rcases hc with rfl | rfl | rfl | rfl | rfl | rfl <;> exact (struct_cells18 h1 (Option.some.inj (h2.trans rfl))).1
    have hall2 : ∀ i : Nat, i < 6 → W.cell? ⟨0, i * 4, none⟩ = some (.string ⟨(nameK (i : Int)).toArray⟩) := fun i hi => by
      rw [World.var?_cell hg2 hvar2 (i * 4), ← Array.getElem?_toList]
      exact hall i hi
    exact ⟨World.block_lt_of_cell? W _ (hall2 0 (by decide)), hall2⟩
end Go.Proofs.YteeahhklbgnepaaDoor
