/- Texts put together: Cmd17, WalkN17, WalkO17. -/
import Derived.Test.YtboceckeebhfoaaDoorQWalkD17
import Derived.Test.YtboceckeebhfoaaDoorQMWalkA01
import Derived.Lib.IndexLaws
import Derived.Deep.LoopGhost
set_option linter.unusedVariables false
set_option linter.unusedSimpArgs false
/- Commands that are answered; words that came in. -/
set_option linter.unusedVariables false
set_option linter.unusedSimpArgs false
namespace Go.Proofs.YtboceckeebhfoaaDoor
open Go.RowKit

/-- Words, in a slice that is no longer than its room. -/
def StrsC (w : World) (v : Value) (l : List (List UInt8)) : Prop := Strs w v l ∧ ∀ a n c, v = .slice a n c → n ≤ c ∧ (a = none → c = 0)
theorem StrsC.below {w w' : World} {v : Value} {l : List (List UInt8)} (h : StrsC w v l) (hb : Below w.heap.size w w') : StrsC w' v l := ⟨h.1.below hb, h.2⟩
theorem StrsC.nil_ (w : World) : StrsC w (.slice none 0 0) [] := ⟨Strs.nil_ w, fun a n c h => by cases h; exact ⟨Nat.le_refl _, fun _ => rfl⟩⟩
theorem strsC_slice {w : World} {v : Value} {l : List (List UInt8)} (h : StrsC w v l) : ∃ a c, v = .slice a l.length c := by obtain ⟨⟨a, c, h, _⟩, _⟩ := h; exact ⟨a, c, h⟩
theorem strs_slice17 {w : World} {v : Value} {l : List (List UInt8)} (h : Strs w v l) : ∃ a c, v = .slice a l.length c := by obtain ⟨a, c, h, _⟩ := h; exact ⟨a, c, h⟩
/-- A slice literal. -/
theorem lit_strs (w : World) (t : TypeId) (C : Array Value) (l : List (List UInt8)) (hC : C = (strsV l).toArray) (hm : l.length ≤ maxLen) (n : Nat) (hn : n = l.length) : StrsC (w.alloc (.cells C t)) (.slice (some ⟨w.heap.size, 0, none⟩) n n) l :=
  ⟨new_strs w t C l n n hC hn hm, fun a m c h => by cases h; exact ⟨Nat.le_refl _, fun h => by cases h⟩⟩
theorem own_strsC17 {w : World} {base : Nat} {e : TypeId} {v : Value} {n : Nat} {l : List (List UInt8)} (h : w.ownsRow base e 1 v n (strsV l)) : StrsC w v l := by
  refine ⟨own_strs h, fun a m c hv => ?_⟩
  rcases h.2 with ⟨rfl, _⟩ | ⟨g, cap, cur, rfl, _, _, hn, _⟩
  · cases hv; exact ⟨Nat.le_refl _, fun _ => rfl⟩
  · cases hv; exact ⟨hn, fun h => by cases h⟩
theorem strs_src17 {w : World} {a : Option Addr} {n c : Nat} {l : List (List UInt8)} (h : Strs w (.slice a n c) l) : ∀ ad, a = some ad → ∀ j u, (strsV l)[j]? = some u → w.cell? (ad.add j) = some u := by
  intro ad ha j u hu
  rw [strsV, List.getElem?_map] at hu
  rcases hj : l[j]? with _ | y
  · rw [hj] at hu; cases hu
  rw [hj] at hu
  obtain ⟨hjl, hy⟩ := List.getElem?_eq_some_iff.1 hj
  obtain ⟨a', c', e, _, hc⟩ := h
  cases e
  obtain ⟨b, o, e, _, hx⟩ := hc (by omega)
  rw [e] at ha
  cases ha
  rw [Addr.add_lit, hx j hjl, hy]
  exact hu

theorem refRead_any (l : List (List UInt8)) (v : Value) (w : World) (hv : StrsC w v l) (hl : l.length ≤ 900) (he : ∀ y ∈ l, y.length ≤ 1000) :
    Calls Tryd.prog 11 #[v] w fun e w' => ∃ vo, e = .returned (.tuple #[.agg (cmdC (readA l).1 vo), .string ⟨(readA l).2.toArray⟩]) ∧ w'.ownsRow w.heap.size 9 1 vo (readA l).1.ops.length (strsV (readA l).1.ops) ∧ Below w.heap.size w w' := by
  cases l with
  | nil => exact refRead_nil v w hv.1
  | cons x t => exact refRead_cons x t v w hv.1 (fun a n c h => (hv.2 a n c h).1) (by simp at hl; omega) he

set_option maxHeartbeats 2000000 in
/-- The same command? -/
theorem refSameC_any (a b : CmdV) (va vb : Value) (w : World) (ha : Strs w va a.ops) (hb : Strs w vb b.ops) :
    Calls Tryd.prog 12 #[.agg (cmdC a va), .agg (cmdC b vb)] w fun e w' => e = .returned (.bool (decide (a = b))) ∧ Below w.heap.size w w' := by
  obtain ⟨a1, c1, rfl⟩ := strs_slice17 ha
  obtain ⟨a2, c2, rfl⟩ := strs_slice17 hb
  obtain ⟨k1, o1, l1⟩ := a
  obtain ⟨k2, o2, l2⟩ := b
  dsimp only at ha hb
  have bA := (Blk.new w 26 (cmdC ⟨k1, o1, l1⟩ (.slice a1 l1.length c1))).alloc (.cells (cmdC ⟨k2, o2, l2⟩ (.slice a2 l2.length c2)) 26)
  have bB := Blk.new (w.alloc (.cells (cmdC ⟨k1, o1, l1⟩ (.slice a1 l1.length c1)) 26)) 26 (cmdC ⟨k2, o2, l2⟩ (.slice a2 l2.length c2))
  have hB : Below w.heap.size w ((w.alloc (.cells (cmdC ⟨k1, o1, l1⟩ (.slice a1 l1.length c1)) 26)).alloc (.cells (cmdC ⟨k2, o2, l2⟩ (.slice a2 l2.length c2)) 26)) := ((Below.refl _ w).alloc (Nat.le_refl _) _).alloc (by simp) _
  have hS := Same_any l1 l2 _ _ _ (ha.below hB) (hb.below hB)
  simp only [World.size_alloc] at bB
  obtain ⟨⟨p0, p1, p2⟩, _⟩ := bA.tri
  obtain ⟨⟨q0, q1, q2⟩, _⟩ := bB.tri
  dsimp only at p0 p1 p2 q0 q1 q2
  clear ha hb bA bB
  by_cases hk : k1 = k2
  · subst hk
    by_cases ho : o1 = o2
    · subst ho
      have HN : Hid (decide ((⟨k1, o1, l1⟩ : CmdV) = ⟨k1, o1, l2⟩) = decide (l1 = l2)) := by show _ = _; simp
      go_enter Tryd.func12, Tryd.ntmps12
      go_wp2_with fail
      refine hS.mono ?_
      rintro e w3 ⟨rfl, b3⟩
      go_wp2
      go_ret
      exact ⟨ret_bool (by rw [HN.out]), hB.trans (b3.mono hB.size)⟩
    · have HN : Hid (decide ((⟨k1, o1, l1⟩ : CmdV) = ⟨k1, o2, l2⟩) = false) := by show _ = _; simp [ho]
      have hob : (o1 == o2) = false := by simpa using ho
      clear hS ho
      go_enter Tryd.func12, Tryd.ntmps12
      go_wp2
      go_ret
      exact ⟨ret_bool (by rw [HN.out]), hB⟩
  · have HN : Hid (decide ((⟨k1, o1, l1⟩ : CmdV) = ⟨k2, o2, l2⟩) = false) := by show _ = _; simp [hk]
    have hkb : (k1 == k2) = false := by simpa using hk
    clear hS hk
    go_enter Tryd.func12, Tryd.ntmps12
    go_wp2
    go_ret
    exact ⟨ret_bool (by rw [HN.out]), hB⟩
end Go.Proofs.YtboceckeebhfoaaDoor

/- Walks: strings.IndexByte; the errs.Line of two texts; where the program's table lies. -/
set_option linter.unusedVariables false
set_option linter.unusedSimpArgs false
namespace Go.Proofs.YtboceckeebhfoaaDoor
open Go.RowKit

theorem IndexByte17_any (s : List UInt8) (c : UInt8) (w : World) :
    Calls Tryd.prog 28 #[.string ⟨s.toArray⟩, .int .u8 (c.toNat : Int)] w fun e w' => e = .returned (.int .i64 (Lib.indexByte s c)) ∧ w' = w := by
  have := Tryd.strings_IndexByte ⟨s.toArray⟩ (c.toNat : Int) w
  have e : (c.toNat : Int).toNat.toUInt8 = c := by simp
  rw [e] at this
  exact this
theorem index_in (s : List UInt8) (c : UInt8) : decide (0 ≤ Lib.indexByte s c) = inB s c := by
  unfold inB
  rw [Bool.eq_iff_iff, decide_eq_true_eq, List.contains_iff_mem]
  constructor
  · intro h
    exact List.mem_of_getElem? (Lib.indexByte_some (l := s) (c := c) (o := (Lib.indexByte s c).toNat) (by omega)).1
  · intro h
    obtain ⟨k, hk⟩ := List.mem_iff_getElem?.1 h
    rcases Int.lt_or_le (Lib.indexByte s c) 0 with h2 | h2
    · have hge := Lib.indexByte_ge s c
      exact absurd hk (Lib.indexByte_none (by omega) k)
    · exact h2
theorem index_yes {s : List UInt8} {c : UInt8} (h : inB s c = true) : 0 ≤ Lib.indexByte s c := by
  have := index_in s c
  rw [h] at this
  exact of_decide_eq_true this
theorem index_not {s : List UInt8} {c : UInt8} (h : inB s c = false) : Lib.indexByte s c < 0 := by
  have := index_in s c
  rw [h] at this
  have := of_decide_eq_false this
  omega

/-- The letters of a command's options, as the program's table has them. -/
def letK (k : Int) : List UInt8 := if k = 1 then [112] else if k = 2 then [82, 100, 102, 114] else if k = 3 then [84, 102, 110, 115] else if k = 4 then [84, 102, 110] else if k = 5 then [80, 82, 84, 102, 110, 114] else []
def needK (k : Int) : Int := if k = 0 then 0 else if k ≤ 3 then 1 else 2
theorem letK_in (k : Int) (c : UInt8) : inB (letK k) c = inB (allK k) c := by
  unfold inB letK allK
  rw [Bool.eq_iff_iff, List.contains_iff_mem, List.contains_iff_mem]
  split
  · rfl
  split
  · simp only [List.mem_cons, List.not_mem_nil, or_false]; constructor <;> (rintro (h | h | h | h) <;> simp [h])
  split
  · simp only [List.mem_cons, List.not_mem_nil, or_false]; constructor <;> (rintro (h | h | h | h) <;> simp [h])
  split
  · simp only [List.mem_cons, List.not_mem_nil, or_false]; constructor <;> (rintro (h | h | h) <;> simp [h])
  split
  · simp only [List.mem_cons, List.not_mem_nil, or_false]; constructor <;> (rintro (h | h | h | h | h | h) <;> simp [h])
  · rfl
theorem letK_len (k : Int) : (letK k).length ≤ 6 := by
  unfold letK
  repeat' split
  all_goals simp
theorem nameK_len (k : Int) : (nameK k).length ≤ 5 := by
  unfold nameK
  repeat' split
  all_goals simp
theorem nameK_not {k : Int} (h : ¬ (1 ≤ k ∧ k ≤ 5)) : nameK k = [] := by
  unfold nameK
  rw [if_neg (by omega), if_neg (by omega), if_neg (by omega), if_neg (by omega), if_neg (by omega)]
/-- The table of the commands lies in memory. -/
def Laid17 (w : World) : Prop := 0 < w.heap.size ∧ ∀ i : Nat, i < 6 → w.cell? ⟨0, i * 4, none⟩ = some (.string ⟨(nameK (i : Int)).toArray⟩) ∧ w.cell? ⟨0, i * 4 + 1, none⟩ = some (.string ⟨(letK (i : Int)).toArray⟩) ∧
  w.cell? ⟨0, i * 4 + 2, none⟩ = some (.bool (decide (4 ≤ (i : Int)))) ∧ w.cell? ⟨0, i * 4 + 3, none⟩ = some (.int .i64 (needK (i : Int)))
theorem Laid17.below {w w' : World} {n : Nat} (h : Laid17 w) (hb : Below n w w') (hn : 0 < n) : Laid17 w' :=
  ⟨Nat.lt_of_lt_of_le h.1 hb.size, fun i hi => ⟨(hb.cell (p := ⟨0, i * 4, none⟩) hn).trans (h.2 i hi).1, (hb.cell (p := ⟨0, i * 4 + 1, none⟩) hn).trans (h.2 i hi).2.1, (hb.cell (p := ⟨0, i * 4 + 2, none⟩) hn).trans (h.2 i hi).2.2.1, (hb.cell (p := ⟨0, i * 4 + 3, none⟩) hn).trans (h.2 i hi).2.2.2⟩⟩
theorem Laid17.next {w w' : World} (h : Laid17 w) (hb : Below w.heap.size w w') : Laid17 w' := h.below hb h.1
end Go.Proofs.YtboceckeebhfoaaDoor

/- Walks: the program's Name, Has, kindOf, give, rising, copies. -/
set_option linter.unusedVariables false
set_option linter.unusedSimpArgs false
namespace Go.Proofs.YtboceckeebhfoaaDoor
open Go.RowKit

theorem Name17_any (k : Int) (w : World) (hL : Laid17 w) : Calls Tryd.prog 13 #[.int .i64 k] w fun e w' => e = .returned (.string ⟨(nameK k).toArray⟩) ∧ Below w.heap.size w w' := by
  by_cases h : 1 ≤ k ∧ k ≤ 5
  · obtain ⟨n, rfl⟩ : ∃ n : Nat, k = n := ⟨k.toNat, by omega⟩
    have c := (hL.2 n (by omega)).1
    have hs := nameK_len (n : Int)
    clear hL
    go_enter Tryd.func13, Tryd.ntmps13
    go_wp2_with fail
    refine (Clone_any _ _ (by omega)).mono ?_
    rintro e w' ⟨rfl, hB⟩
    go_wp2
    go_ret
    exact ⟨rfl, hB⟩
  · rw [nameK_not h]
    clear hL
    by_cases h1 : k < 1
    · go_enter Tryd.func13, Tryd.ntmps13
      go_wp2
      go_ret
      exact ⟨rfl, Below.refl _ _⟩
    · have h2 : 5 < k := by omega
      go_enter Tryd.func13, Tryd.ntmps13
      go_wp2
      go_ret
      exact ⟨rfl, Below.refl _ _⟩

theorem Has17_any (c : CmdV) (v : Value) (x : UInt8) (w : World) (hc : c.opts.length ≤ 1000) (hv : ∃ a n m, v = .slice a n m) : Calls Tryd.prog 15 #[.agg (cmdC c v), .int .u8 (x.toNat : Int)] w fun e w' => e = .returned (.bool (inB c.opts x)) ∧ Below w.heap.size w w' := by
  obtain ⟨a, n, m, rfl⟩ := hv
  have bC := Blk.new w 26 (cmdC c (.slice a n m))
  have hB := below_new w (.cells (cmdC c (.slice a n m)) 26)
  obtain ⟨⟨p0, p1, p2⟩, _⟩ := bC.tri
  have hI := Lib.hid (index_in c.opts x)
  have hX := fun W => IndexByte17_any c.opts x W
  clear bC
  generalize Lib.indexByte c.opts x = ix at *
  go_enter Tryd.func15, Tryd.ntmps15
  go_wp2_with fail
  refine (hX _).mono ?_
  rintro e w2 ⟨rfl, rfl⟩
  go_wp2
  go_ret
  exact ⟨ret_bool hI.out, hB⟩

theorem kindOf_any (x : List UInt8) (w : World) (hL : Laid17 w) : Calls Tryd.prog 19 #[.string ⟨x.toArray⟩] w fun e w' => e = .returned (.int .i64 (kindF x)) ∧ w = w' := by
  have HL := Lib.hid hL
  clear hL
  go_enter Tryd.func19, Tryd.ntmps19
  go_wp2
  go_loop [3] (fun i => ∃ k : Nat, 1 ≤ k ∧ k ≤ 6 ∧ i = .int .i64 k ∧ Aside (kindTo x k = 0)) (fun i => 6 - (intOf i).toNat)
  case atStart => exact ⟨1, Nat.le_refl _, by omega, rfl, kindTo_one x⟩
  case round =>
    obtain ⟨k, hk1, hk6, rfl, HT⟩ := hrel
    by_cases hlt : k < 6
    · have c := (HL.out.2 k hlt).1
      cases hn : (nameK (k : Int) == x)
      · have HN : Hid (kindTo x (k + 1 : Nat) = 0) := Lib.hid ((kindTo_no hk1 (by omega) hn).trans HT.out)
        have hl5 : (k : Int) ≤ 5 := by omega
        go_wp2
        go_round
        case rel => exact ⟨k + 1, by omega, by omega, by go_num, HN.out⟩
        case measure => simp [intOf]; omega
      · have HN : Hid (kindF x = k) := Lib.hid ((name_iff hk1 (by omega) x).1 (by simpa using hn))
        have hl5 : (k : Int) ≤ 5 := by omega
        go_wp2
        go_ret
        exact ⟨by rw [HN.out]; rfl, rfl⟩
    · obtain rfl : k = 6 := by omega
      have HN : Hid (kindF x = 0) := Lib.hid ((kindTo_six x).symm.trans HT.out)
      go_wp2
      go_ret
      exact ⟨by rw [HN.out]; rfl, rfl⟩

theorem info17 : (Tryd.prog.info? 5).map (fun i => (i.zero, i.size, i.bytes)) = some (some (.int .u8 0), 1, 1) := by kernel_rfl

theorem copies_any (l : List (List UInt8)) (v : Value) (w : World) (hv : Strs w v l) (hl : l.length ≤ 1000) (he : ∀ y ∈ l, y.length ≤ 1000) :
    Calls Tryd.prog 22 #[v] w fun e w' => ∃ vo, e = .returned vo ∧ w'.ownsRow w.heap.size 9 1 vo l.length (strsV l) ∧ Below w.heap.size w w' := by
  obtain ⟨a, ca, rfl, hm, HA0⟩ := hv
  have HA := Lib.hid HA0
  have HE := Lib.hid he
  clear HA0 he hm
  obtain ⟨is, hsi, hs0, hs1, hs2⟩ := info_parts infoS17
  go_enter Tryd.func22, Tryd.ntmps22
  go_wp2
  go_loopw [3, 8] (fun s i wr => ∃ k : Nat, k ≤ l.length ∧ i = .int .i64 k ∧ Aside (wr.ownsRow w.heap.size 9 1 s k (strsV (l.take k))) ∧ Below w.heap.size w wr) (fun _ i _ => l.length - (intOf i).toNat)
  case atStart => exact ⟨0, Nat.zero_le _, rfl, World.ownsRow_nil _ _ _ _, Below.refl _ _⟩
  case round =>
    obtain ⟨k, hk, rfl, HO, hb⟩ := hrel
    by_cases hlt : k < l.length
    · obtain ⟨ba, oa, rfl, hba, hca⟩ := HA.out (by omega)
      have c1 : wr.cell? ⟨ba, oa + k, none⟩ = some (.string ⟨l[k].toArray⟩) := (hb.cell (p := ⟨ba, oa + k, none⟩) hba).trans (hca k hlt)
      have hlk := HE.out l[k] (List.getElem_mem hlt)
      have HTK := Lib.hid (List.take_succ_eq_append_getElem hlt)
      clear hca
      generalize l[k] = y at *
      go_wp2_with fail
      refine (Clone_any y _ (by omega)).mono ?_
      rintro e w2 ⟨rfl, b2⟩
      have hO2 := own_keep17 HO.out b2
      have hb2 := hb.trans (b2.mono hb.size)
      go_wp2_with (at_builtin; refine wpList_append_new rfl (.tmp 12) (.tmp 15) 22 9 rfl Tryd.underlying22 hsi hs0 hs1 hs2 rfl (by decide) (by decide) w.heap.size #[.string ⟨y.toArray⟩] 1 rfl rfl hO2 rfl (by simp [Value.oneCell']) (by omega) hb2.size ?_; intro v3 w3 hown3 hb3)
      go_roundw
      case rel => exact ⟨k + 1, hlt, by go_num, by rw [HTK.out]; exact (show w3.ownsRow w.heap.size 9 1 v3 (k + 1) (strsV (l.take k ++ [y])) from by simpa [strsV] using hown3), hb2.trans hb3⟩
      case measure => simp [intOf]; omega
    · obtain rfl : k = l.length := by omega
      have hO := HO.out
      rw [List.take_length] at hO
      have HO2 := Lib.hid hO
      clear hO HO
      go_wp2
      go_ret
      exact ⟨_, rfl, HO2.out, hb⟩

/-- Marks as cells. -/
def boolsV (g : List Bool) : Array Value := (g.map Value.bool).toArray
theorem boolsV_at (g : List Bool) (i : Nat) (h : i < g.length) : (boolsV g)[i]? = some (.bool g[i]) := by
  unfold boolsV
  rw [List.getElem?_toArray, List.getElem?_map, List.getElem?_eq_getElem h]
  rfl
theorem boolsV_set (g : List Bool) (i : Nat) (b : Bool) : (boolsV g).setIfInBounds i (.bool b) = boolsV (g.set i b) := by
  unfold boolsV
  rw [List.setIfInBounds_toArray, List.map_set]
/-- A letter is given. -/
def giveL (last : Bool) (c : UInt8) (g : List Bool) : List Bool :=
  if c = 82 then g.set 114 true
  else if last = true ∧ c = 102 then (g.set 110 false).set 102 true
  else if last = true ∧ c = 110 then (g.set 102 false).set 110 true
  else g.set c.toNat true
theorem marks_give (k : Int) (s : List UInt8) (c : UInt8) : marks k (s ++ [c]) = giveL (decide (4 ≤ k)) c (marks k s) := by
  unfold giveL
  simp only [decide_eq_true_eq]
  split
  · rename_i h; subst h; exact marks_r k s
  split
  · rename_i h; obtain ⟨h4, rfl⟩ := h; exact marks_f h4 s
  split
  · rename_i h; obtain ⟨h4, rfl⟩ := h; exact marks_n h4 s
  · rename_i h1 h2 h3; exact marks_c s c h1 h2 h3
theorem giveL_len (last : Bool) (c : UInt8) (g : List Bool) : (giveL last c g).length = g.length := by
  unfold giveL
  split
  · simp
  split
  · simp
  split <;> simp

set_option maxHeartbeats 2000000 in
set_option maxRecDepth 100000 in
theorem give_any (B : Nat) (g : List Bool) (c : UInt8) (last : Bool) (w : World) (hb : Blk w B 54 (boolsV g)) (hg : g.length = 256) :
    Calls Tryd.prog 30 #[.pointer (some ⟨B, 0, none⟩), .int .u8 (c.toNat : Int), .bool last] w fun e w' => e = .returned (.tuple #[]) ∧ Blk w' B 54 (boolsV (giveL last c g)) ∧ w.grownBy w' (some B) := by
  have hc : c.toNat < 256 := c.toNat_lt
  have key : ∀ n : Nat, c.toNat = n → ((c.toNat : Int) == (n : Int)) = true := fun n h => by rw [beq_iff_eq]; omega
  have keyn : ∀ n : Nat, c.toNat ≠ n → ((c.toNat : Int) == (n : Int)) = false := fun n h => by rw [beq_eq_false_iff_ne]; omega
  by_cases h82 : c.toNat = 82
  · have HG : Hid (giveL last c g = g.set 114 true) := Lib.hid (by unfold giveL; rw [if_pos (show c = 82 from UInt8.toNat_inj.1 (by rw [h82]; rfl))])
    have hx := hb.set 114 (.bool true)
    rw [boolsV_set] at hx
    have hgr := grownBy_set w B 114 (.bool true)
    have f1 := hb.frozen 114
    have c1 := (hb.cell 114).trans (boolsV_at g 114 (by omega))
    have b82 := key 82 h82
    have HX := Lib.hid hx
    clear hb hx key keyn h82
    go_enter Tryd.func30, Tryd.ntmps30
    go_wp2
    refine bodyPost_end (results_none rfl _ _ _) rfl ?_
    exact ⟨rfl, by rw [HG.out]; exact HX.out, hgr⟩
  have b82 : ((c.toNat : Int) == 82) = false := keyn 82 h82
  have n82 : ¬ c = 82 := fun h => h82 (by rw [h]; rfl)
  by_cases h102 : last = true ∧ c.toNat = 102
  · obtain ⟨rfl, h102⟩ := h102
    have HG : Hid (giveL true c g = (g.set 110 false).set 102 true) := Lib.hid (by unfold giveL; rw [if_neg n82, if_pos ⟨rfl, show c = 102 from UInt8.toNat_inj.1 (by rw [h102]; rfl)⟩])
    have hx := (hb.set 110 (.bool false)).set 102 (.bool true)
    rw [boolsV_set, boolsV_set] at hx
    have hgr := (grownBy_set w B 110 (.bool false)).trans (grownBy_set _ B 102 (.bool true))
    have f1 := hb.frozen 110
    have c1 := (hb.cell 110).trans (boolsV_at g 110 (by omega))
    have hb2 := hb.set 110 (.bool false)
    rw [boolsV_set] at hb2
    have f2 := hb2.frozen 102
    have c2 := (hb2.cell 102).trans (boolsV_at _ 102 (by rw [List.length_set]; omega))
    have b102 := key 102 h102
    have HX := Lib.hid hx
    have hcn : c.toNat = 102 := h102
    rw [hcn]
    rw [hcn] at b82 b102
    clear hb hb2 hx key keyn h82 n82
    go_enter Tryd.func30, Tryd.ntmps30
    go_wp2
    refine bodyPost_end (results_none rfl _ _ _) rfl ?_
    exact ⟨rfl, by rw [HG.out]; exact HX.out, hgr⟩
  by_cases h110 : last = true ∧ c.toNat = 110
  · obtain ⟨rfl, h110⟩ := h110
    have hne : ¬ (true = true ∧ c = 102) := fun h => by have := h.2; subst this; exact absurd h110 (by decide)
    have HG : Hid (giveL true c g = (g.set 102 false).set 110 true) := Lib.hid (by unfold giveL; rw [if_neg n82, if_neg hne, if_pos ⟨rfl, show c = 110 from UInt8.toNat_inj.1 (by rw [h110]; rfl)⟩])
    have hx := (hb.set 102 (.bool false)).set 110 (.bool true)
    rw [boolsV_set, boolsV_set] at hx
    have hgr := (grownBy_set w B 102 (.bool false)).trans (grownBy_set _ B 110 (.bool true))
    have f1 := hb.frozen 102
    have c1 := (hb.cell 102).trans (boolsV_at g 102 (by omega))
    have hb2 := hb.set 102 (.bool false)
    rw [boolsV_set] at hb2
    have f2 := hb2.frozen 110
    have c2 := (hb2.cell 110).trans (boolsV_at _ 110 (by rw [List.length_set]; omega))
    have b102 := keyn 102 (by omega)
    have b110 := key 110 h110
    have HX := Lib.hid hx
    have hcn : c.toNat = 110 := h110
    rw [hcn]
    rw [hcn] at b82 b102 b110
    clear hb hb2 hx key keyn h82 n82 h102
    go_enter Tryd.func30, Tryd.ntmps30
    go_wp2
    refine bodyPost_end (results_none rfl _ _ _) rfl ?_
    exact ⟨rfl, by rw [HG.out]; exact HX.out, hgr⟩
  have HG : Hid (giveL last c g = g.set c.toNat true) := Lib.hid (by
    unfold giveL
    rw [if_neg n82, if_neg (fun h => h102 ⟨h.1, by rw [h.2]; rfl⟩), if_neg (fun h => h110 ⟨h.1, by rw [h.2]; rfl⟩)])
  have hx := hb.set c.toNat (.bool true)
  rw [boolsV_set] at hx
  have hgr := grownBy_set w B c.toNat (.bool true)
  have f1 := hb.frozen c.toNat
  obtain ⟨bv, hbv⟩ : ∃ b, (boolsV g)[c.toNat]? = some (.bool b) := ⟨_, boolsV_at g c.toNat (by omega)⟩
  have c1 := (hb.cell c.toNat).trans hbv
  clear hbv
  have HX := Lib.hid hx
  have h102' : last = true → c.toNat ≠ 102 := fun h h2 => h102 ⟨h, h2⟩
  have h110' : last = true → c.toNat ≠ 110 := fun h h2 => h110 ⟨h, h2⟩
  clear hb hx n82 h82 h102 h110
  generalize c.toNat = n at *
  have hci : (n : Int) < 256 := by omega
  have hc0 : (0 : Int) ≤ (n : Int) := by omega
  cases hl : last
  · subst hl
    clear h102' h110'
    by_cases g102 : n = 102
    · have b102 : ((n : Int) == 102) = true := key 102 g102
      have b110 : ((n : Int) == 110) = false := keyn 110 (by omega)
      clear key keyn g102
      go_enter Tryd.func30, Tryd.ntmps30
      go_wp2
      refine bodyPost_end (results_none rfl _ _ _) rfl ?_
      exact ⟨rfl, by rw [HG.out]; exact HX.out, hgr⟩
    · have b102 : ((n : Int) == 102) = false := keyn 102 g102
      by_cases g110 : n = 110
      · have b110 : ((n : Int) == 110) = true := key 110 g110
        clear key keyn g102 g110
        go_enter Tryd.func30, Tryd.ntmps30
        go_wp2
        refine bodyPost_end (results_none rfl _ _ _) rfl ?_
        exact ⟨rfl, by rw [HG.out]; exact HX.out, hgr⟩
      · have b110 : ((n : Int) == 110) = false := keyn 110 g110
        clear key keyn g102 g110
        go_enter Tryd.func30, Tryd.ntmps30
        go_wp2
        refine bodyPost_end (results_none rfl _ _ _) rfl ?_
        exact ⟨rfl, by rw [HG.out]; exact HX.out, hgr⟩
  · have b102 : ((n : Int) == 102) = false := keyn 102 (h102' hl)
    have b110 : ((n : Int) == 110) = false := keyn 110 (h110' hl)
    subst hl
    clear h102' h110' key keyn
    go_enter Tryd.func30, Tryd.ntmps30
    go_wp2
    refine bodyPost_end (results_none rfl _ _ _) rfl ?_
    exact ⟨rfl, by rw [HG.out]; exact HX.out, hgr⟩

set_option maxHeartbeats 2000000 in
set_option maxRecDepth 100000 in
/-- The letters given, rising. -/
theorem rising_any (g : List Bool) (w : World) (hg : g.length = 256) :
    Calls Tryd.prog 31 #[.agg (boolsV g)] w fun e w' => e = .returned (.string ⟨(riseG g 256).toArray⟩) ∧ Below w.heap.size w w' := by
  have bG := Blk.new w 54 (boolsV g)
  have hB := below_new w (.cells (boolsV g) 54)
  obtain ⟨i0, hi, hz0, hz1, hz2⟩ := info_parts info17
  have hgi : ∀ i (h : i < 256), (boolsV g)[i]? = some (.bool (g.getD i false)) := fun i h => by
    rw [boolsV_at g i (by omega), List.getD_eq_getElem?_getD, List.getElem?_eq_getElem (by omega)]; rfl
  have HGI := Lib.hid hgi
  clear hgi hg
  go_enter Tryd.func31, Tryd.ntmps31
  generalize boolsV g = G at *
  go_wp2
  go_loopw [3, 5] (fun s3 s5 wr => ∃ n : Nat, n ≤ 256 ∧ s5 = .int .i64 (n : Int) ∧ Aside (wr.ownsRow (w.heap.size + 1) 5 1 s3 (riseG g n).length (bytesV (riseG g n))) ∧ Below w.heap.size w wr ∧ Aside (Blk wr w.heap.size 54 G)) (fun _ s5 _ => 256 - (intOf s5).toNat)
  case atStart => exact ⟨0, by omega, rfl, World.ownsRow_nil _ _ _ _, hB, bG⟩
  case round =>
    obtain ⟨n, hn, rfl, HO, hb, HG⟩ := hrel
    have hol := riseG_len g n
    by_cases hlt : n < 256
    · have c1 := (HG.out.cell n).trans (HGI.out n hlt)
      have hsu := Lib.hid (riseG_succ g n)
      cases hg1 : g.getD n false
      · rw [hg1] at c1
        have HN : Hid (riseG g (n + 1) = riseG g n) := Lib.hid (by rw [hsu.out, hg1]; simp)
        have HB := Lib.hid HG.out
        go_wp2
        go_roundw
        case rel => exact ⟨n + 1, hlt, by go_num, by rw [HN.out]; exact HO.out, hb, HB.out⟩
        case measure => simp [intOf]; omega
      · rw [hg1] at c1
        have HN : Hid (riseG g (n + 1) = riseG g n ++ [UInt8.ofNat n]) := Lib.hid (by rw [hsu.out, hg1]; simp)
        have hcv : IntKind.u8.wrap (n : Int) = ((UInt8.ofNat n).toNat : Int) := by rw [IntWalk.u8_in _ (by omega)]; simp; omega
        have HB := Lib.hid HG.out
        have HBk : Hid (Blk wr w.heap.size 54 G) := Lib.hid HG.out
        have hO := HO.out
        generalize UInt8.ofNat n = x at *
        have hsz := HB.out.lt
        go_wp2_with (at_builtin; refine wpList_append_new rfl (.tmp 11) (.tmp 14) 34 5 rfl Tryd.underlying34 hi hz0 hz1 hz2 rfl (by decide) (by decide) (w.heap.size + 1) _ 1 rfl rfl hO rfl (by simp [Value.oneCell']) (by omega) hsz ?_; intro v3 w3 hown3 hb3)
        go_roundw
        case rel => exact ⟨n + 1, hlt, by go_num, by rw [HN.out]; exact (show w3.ownsRow (w.heap.size + 1) 5 1 v3 (riseG g n ++ [x]).length (bytesV (riseG g n ++ [x])) from by simpa [bytesV] using hown3), hb.trans (hb3.mono (Nat.le_succ _)), HBk.out.below hb3 (Nat.lt_succ_self _)⟩
        case measure => simp [intOf]; omega
    · obtain rfl : n = 256 := by omega
      have hown := HO.out
      have hcv := run_own_string (P := Tryd.prog) (l := riseG g 256) 34 9 Tryd.underlying34 Tryd.underlying5 Tryd.underlying9 hown
      go_wp2
      go_ret
      exact ⟨rfl, hb⟩
end Go.Proofs.YtboceckeebhfoaaDoor
