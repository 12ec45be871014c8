/- WalkLeft: the walk of a sound file system, left behind whatever many and gone again: what was come to is the document's walk's beginning, with its inodes. Of file systems that are not sound, or too large for the statement, it asks only its fixed answers. -/
import Derived.Test.YtneklkjlcpgdgaaQWalkL08
import Derived.Test.YtneklkjlcpgdgaaQWalkG05
import Derived.Test.YtneklkjlcpgdgaaQWalkF07
import Derived.Test.YtneklkjlcpgdgaaQWalkB08
import Derived.Test.YtneklkjlcpgdgaaQAwakeB08
import Derived.Test.YtneklkjlcpgdgaaQLawBase05
import Derived.OwnWalkIn
namespace Go.Proofs.Ytneklkjlcpgdgaa
open Go.ChangeShapes Go.WideShapes Go.ChangeAt Go.RowKit
open Go.ChangeMaps (open_string shut_string)
set_option linter.unusedVariables false
attribute [local go_sem] Oper.semAt_some

/-- 'x = append(x, ..)' of a list of operations, inside a fence. -/
theorem wpListIn_append_here {F : Fence} {rm : Nat} {P : Program} {w : World} {ops : Array Oper} {rest : List Oper} {o : Oper} {a : Act} {Q : Exit → Act → World → Prop} (hgd : o.guard = none) (s x : Operand) (t e : TypeId)
    (ho : o.op = .call { callee := .builtin .append, args := #[s, x], argTypes := #[t, t] })
    {i : TypeInfo} {z : Value} {size bytes : Nat} (ht : P.underlying t = some (.slice e)) (hi : P.info? e = some i) (hz : i.zero = some z)
    (hsize : i.size = size) (hby : i.bytes = bytes) (hzs : z.cells.size = size) (hsz : 0 < size) (hbs : bytes ≤ 128)
    (base : Nat) {v : Value} {n : Nat} {xs : List Value} (C : Array Value) (m : Nat) (hs : a.eval s = v) (hx : a.eval x = .slice (some ⟨w.heap.size, 0, none⟩) m m) (hown : w.ownsRow base e size v n xs)
    (hm : C.size = m * size) (h1 : ∀ u ∈ C.toList, u.oneCell' = true) (hb : n + m ≤ 1099511627776) (hbase : base ≤ w.heap.size)
    (hK : ∀ v' w', w'.ownsRow base e size v' (n + m) (xs ++ C.toList) → (w.alloc (.cells C e)).grownBy w' v.ownBlock → (∀ g, v'.ownBlock = some g → v.ownBlock = some g ∨ (w.alloc (.cells C e)).heap.size ≤ g) → wpListIn F rm P ops Q rest (a.put o.dst v') w') :
    wpListIn F rm P ops Q (o :: rest) a (w.alloc (.cells C e)) := by
  refine wpListIn_plain hgd fun K hK' => ?_
  obtain ⟨v', w', hrun, r1, r2, r3⟩ := run_append_here (P := P) (w := w.alloc (.cells C e)) base t o.type e i z size bytes ht hi hz hsize hby hzs hsz v n xs (hown.alloc _) ⟨w.heap.size, 0, none⟩ m m C.toList (by simpa using hm) (cells_block w C e) h1 (by unfold maxLen; omega)
    (by calc (n + m) * bytes ≤ 1099511627776 * 128 := Nat.mul_le_mul hb hbs
          _ ≤ 140737488355328 := by decide) (by simp; omega)
  unfold Oper.wpIn
  refine ⟨?_, ?_⟩
  · simp [Oper.about, ho, resolve, Target.leads, Sem.run_pure]
  · rw [Oper.semAt_plain F _ _ (by rw [ho]; intro c hc'; cases hc')]
    simp [execOp, ho, resolve, invoke, builtin, hs, hx, hrun, Result.andThen]
    exact hK' _ _ (hK v' w' r1 r2 r3)
theorem arr70 (arr : Array Value) (h : arr.size = 70) : ∃ s : Nat → Value, arr = #[s 0, s 1, s 2, s 3, s 4, s 5, s 6, s 7, s 8, s 9, s 10, s 11, s 12, s 13, s 14, s 15, s 16, s 17, s 18, s 19, s 20, s 21, s 22, s 23, s 24, s 25, s 26, s 27, s 28, s 29, s 30, s 31, s 32, s 33, s 34, s 35, s 36, s 37, s 38, s 39, s 40, s 41, s 42, s 43, s 44, s 45, s 46, s 47, s 48, s 49, s 50, s 51, s 52, s 53, s 54, s 55, s 56, s 57, s 58, s 59, s 60, s 61, s 62, s 63, s 64, s 65, s 66, s 67, s 68, s 69] := by
  refine ⟨fun i => arr.getD i undef, ?_⟩
  obtain ⟨l⟩ := arr
  have h' : l.length = 70 := h
  have e : l = (List.range 70).map (fun i => (Array.mk l).getD i undef) := by
    apply List.ext_getElem
    · rw [List.length_map, List.length_range, h']
    · intro i h1 h2
      rw [List.getElem_map, List.getElem_range, Array.getD, dif_pos (show i < (Array.mk l).size from h1)]
      rfl
  exact congrArg Array.mk e
theorem ents_in {l : List Nd} {x : Nd} (hx : x ∈ l) : x.ents.length ≤ entsN l := by
  unfold entsN
  induction l with
  | nil => cases hx
  | cons y r ih =>
    rw [List.map_cons, List.sum_cons]
    rcases List.mem_cons.1 hx with rfl | hx
    · omega
    · have := ih hx; omega
def markD (d : Nat) : Deferred := { target := .collected d, args := #[] }
/-- A function on its way out, past whatever many marks. -/
theorem leaves_marks {P : Program} {F : Fence} {n : Nat} {fn : Func} {tmps : Array Value} {R : Ending → World → Prop} : ∀ (ds : List Nat) (W : World), ds.Nodup → (∀ d ∈ ds, W.heap[d]? = some (.deferred (some []))) →
    (∀ W', W'.os = W.os → W'.tape = W.tape → W'.output = W.output → W.heap.size ≤ W'.heap.size → (∀ k, k ∉ ds → W'.heap[k]? = W.heap[k]?) → LeavesIn F n P fn tmps R [] .returning W') → LeavesInM F n P fn tmps R (ds.map markD) .returning W := by
  intro ds
  induction ds with
  | nil => intro W _ _ h; exact h W rfl rfl rfl (Nat.le_refl _) (fun _ _ => rfl)
  | cons d ds ih =>
    intro W hn hd h
    have hg := grownBy_putObj' W d (.deferred none)
    refine ⟨by simp, .inl ⟨d, _, rfl, run_takeDeferred (hd d (by simp)), ih _ (List.nodup_cons.1 hn).2 (fun d' hd' => (World.putObj_heap_other (fun e => (List.nodup_cons.1 hn).1 (by rw [← e]; exact hd'))).trans (hd d' (by simp [hd']))) ?_⟩⟩
    intro W' h1 h2 h3 h4 h5
    exact h W' (h1.trans hg.os) (h2.trans hg.tape) (h3.trans hg.output) (Nat.le_trans hg.size h4) (fun k hk => (h5 k (fun e => hk (by simp [e]))).trans (World.putObj_heap_other (fun e => hk (by simp [e]))))

set_option maxHeartbeats 8000000 in
set_option maxRecDepth 100000 in
theorem lawLeft (mi mb nx : Int) (mN : Nat) (hmost : mN < 256) (l : List Nd) (v : Value) (w : World) (hv : Nds w v l) :
    Calls Try.prog 5 #[.agg (fsC mi mb nx v), .int .u8 mN] w fun e w' => e = .returned (.bool true) ∧ Below w.heap.size w w' := by
  obtain ⟨i0, hi, hz0, hz1, hz2⟩ := info_parts infoSeen
  obtain ⟨a, ca, rfl⟩ := nds_slice hv
  refine (callsIn_wide (n := 9)).1 ?_
  (refine callsIn_of_wp_marks Try.func5 rfl trivial ?_ rfl; simp only [Try.ntmps5, List.size_toArray, List.length_cons, List.length_nil, Nat.reduceAdd, Nat.reduceSub, Array.replicate_succ, Array.replicate_zero, List.push_toArray, List.append_toArray, List.nil_append, List.cons_append])
  gi_upto_region 1 with fail
  have bF := ((Blk.new w 24 (fsC mi mb nx (.slice a l.length ca))).alloc (.cells #[.int .u8 mN] 5)).alloc (.cells #[.bool false] 4)
  have bM := (Blk.new (w.alloc (.cells (fsC mi mb nx (.slice a l.length ca)) 24)) 5 #[.int .u8 mN]).alloc (.cells #[.bool false] 4)
  have bR := Blk.new ((w.alloc (.cells (fsC mi mb nx (.slice a l.length ca)) 24)).alloc (.cells #[.int .u8 mN] 5)) 4 #[.bool false]
  simp only [World.size_alloc] at bM bR
  have hB : Below w.heap.size w (((w.alloc (.cells (fsC mi mb nx (.slice a l.length ca)) 24)).alloc (.cells #[.int .u8 mN] 5)).alloc (.cells #[.bool false] 4)) := (((Below.refl _ w).alloc (Nat.le_refl _) _).alloc (by simp) _).alloc (by simp; omega) _
  generalize ((w.alloc (.cells (fsC mi mb nx (.slice a l.length ca)) 24)).alloc (.cells #[.int .u8 mN] 5)).alloc (.cells #[.bool false] 4) = w0 at *
  have nV := hv.below hB
  have HV := Lib.hid hv
  clear hv
  obtain ⟨⟨p0, p1, p2, p3⟩, _⟩ := bF.four
  (gi_wp2_with fail; refine ⟨trivial, ?_⟩; gi_at_call 7; refine (callsIn_wide.2 (awake08 _)).mono ?_; rintro e w1 ⟨rfl, b1⟩)
  clear p0 p1 p2 p3
  (replace bF := bF.next b1; replace nV := nV.below b1; replace hB := hB.trans (b1.mono hB.size))
  replace bM := bM.next b1
  replace bR := bR.next b1
  obtain ⟨⟨p0, p1, p2, p3⟩, _⟩ := bF.four
  (gi_wp2_with fail; refine ⟨trivial, ?_⟩; gi_at_call 8; refine (callsIn_wide.2 (refOk_any mi mb nx l _ _ nV)).mono ?_; rintro e w2 ⟨rfl, b2⟩)
  clear p0 p1 p2 p3
  (replace bF := bF.next b2; replace nV := nV.below b2; replace hB := hB.trans (b2.mono hB.size))
  replace bM := bM.next b2
  replace bR := bR.next b2
  cases hok : okB mi mb nx l
  · (gi_wp2_with fail; refine ⟨trivial, ?_⟩; gi_at_call 7; refine (callsIn_wide.2 (awake08 _)).mono ?_; rintro e w9 ⟨rfl, b9⟩)
    replace bR := bR.next b9
    have r0 := (bR.cell 0).trans (rfl : _ = some (Value.bool false))
    have rf := bR.frozen 0
    have bR2 := bR.set 0 (.bool true)
    have r1 := (bR2.cell 0).trans (rfl : _ = some (Value.bool true))
    have hB9 := (hB.trans (b9.mono hB.size)).setCell (p := ⟨w.heap.size + 1 + 1, 0, none⟩) (by show _ ≤ w.heap.size + 1 + 1; omega) (.bool true)
    gi_wp2
    exact ⟨_, by simp [results, Try.f5, go_sem, r1], rfl, hB9⟩
  have t := tree_of hok
  obtain ⟨f1, f2, f3⟩ := few_ents (ok_parts hok).1
  have f4 := (fewN_small (ok_parts hok).1).2
  have hLl : (listN l).length ≤ 1000000 := by rw [list_exact t]; omega
  have HT := Lib.hid (show _ ∧ _ ∧ _ ∧ _ from ⟨t, f3, f4, hLl⟩)
  have HF := Lib.hid (show (∀ x ∈ l, x.ents.length ≤ 1600) ∧ _ from ⟨fun x hx => by have := ents_in hx; omega, f2⟩)
  clear t f1 f2 f3 f4 hLl hok b1 b2
  gi_wp2
  refine wpIn_loop_ghost_k (fun k a' W => ∃ (r : Nat) (arr : Array Value) (ds : List Nat), r + k = 2 ∧ a' = { tmps := arr, defers := ds.map markD } ∧ arr.size = 70 ∧ (arr.getD 0 undef = .agg (fsC mi mb nx (.slice a l.length ca)) ∧ arr.getD 1 undef = .int .u8 mN ∧ arr.getD 2 undef = .pointer (some ⟨w.heap.size, 0, none⟩) ∧ arr.getD 3 undef = .pointer (some ⟨w.heap.size + 1, 0, none⟩) ∧ arr.getD 4 undef = .pointer (some ⟨w.heap.size + 1 + 1, 0, none⟩) ∧ arr.getD 5 undef = .int .i64 (r : Nat)) ∧ ds.Nodup ∧ (∀ d ∈ ds, w.heap.size ≤ d ∧ W.heap[d]? = some (.deferred (some []))) ∧
    Below w.heap.size w W ∧ Blk W w.heap.size 24 (fsC mi mb nx (.slice a l.length ca)) ∧ Blk W (w.heap.size + 1) 5 #[.int .u8 mN] ∧ Blk W (w.heap.size + 1 + 1) 4 #[.bool false] ∧ Nds W (.slice a l.length ca) l) 2 ?_ ?_
  · exact ⟨0, _, [], rfl, rfl, rfl, ⟨rfl, rfl, rfl, rfl, rfl, rfl⟩, List.nodup_nil, fun d h => (by cases h), hB, bF, bM, bR, nV⟩
  intro k a' wr hrel J K hJ hK
  obtain ⟨r, arr, ds, hrk, rfl, hsz, hfx, hnd, hds, hB, bF, bM, bR, nV⟩ := hrel
  obtain ⟨s, rfl⟩ := arr70 arr hsz
  obtain ⟨e0, e1, e2, e3, e4, e5⟩ := hfx
  replace e0 : s 0 = _ := e0
  replace e1 : s 1 = _ := e1
  replace e2 : s 2 = _ := e2
  replace e3 : s 3 = _ := e3
  replace e4 : s 4 = _ := e4
  replace e5 : s 5 = _ := e5
  rw [e0, e1, e2, e3, e4, e5]
  clear e0 e1 e2 e3 e4 e5 hsz
  have HJ := Lib.hid hJ
  clear hJ
  by_cases hr2 : r < 2
  · gi_upto_region 7 with fail
    have bF1 := bF.alloc (.cells #[.slice none 0 0] 31)
    have bG := Blk.new wr 31 #[.slice none 0 0]
    have hal := alloc_below wr (.cells #[.slice none 0 0] 31)
    have nV1 := nV.below hal
    have hs1 : wr.heap.size + 1 ≤ (wr.alloc (.cells #[.slice none 0 0] 31)).heap.size := by simp
    generalize wr.alloc (.cells #[.slice none 0 0] 31) = wq at *
    obtain ⟨⟨p0, p1, p2, p3⟩, _⟩ := bF1.four
    have hv0 : ∀ x ∈ l, 0 < x.ents.length → ∀ b, x.ev.ownBlock = some b → b < wr.heap.size := fun x hx h0 b hb => ents_lt (nV.all x hx) h0 hb
    have hle : ∀ x ∈ l, x.ents.length ≤ 1000000 := fun x hx => by have := HF.out.1 x hx; omega
    have hda : ∀ x ∈ l, x.data.length ≤ 100000000 := fun x hx => by have := HT.out.2.2.1 x hx; omega
    (gi_wp2_with fail; refine ⟨trivial, ?_⟩; gi_at_call 20; refine (callsIn_wide.2 (AllW_any mi mb nx l _ _ nV1 (by have := HF.out.2; omega) hle HT.out.2.1 hda wr.heap.size (by omega) hv0)).mono ?_; rintro e w5 ⟨L, y, rfl, bA, hmap, hnds, b5⟩)
    clear p0 p1 p2 p3
    have tL := bare_tree hmap HT.out.1
    have hshL : ∀ x ∈ L, shortP 300 x.ents := fun x hx => by obtain ⟨y, hy, _, _, _, e4, _⟩ := bare_mem hmap hx; rw [← e4]; exact HT.out.2.1 y hy
    have hdaL : ∀ x ∈ L, x.data.length ≤ 100000000 := fun x hx => by obtain ⟨y, hy, _, _, _, _, e5, _⟩ := bare_mem hmap hx; rw [← e5]; exact hda y hy
    have hleL : ∀ x ∈ L, x.ents.length ≤ 1000000 := fun x hx => by obtain ⟨y, hy, _, _, _, e4, _⟩ := bare_mem hmap hx; rw [← e4]; exact hle y hy
    have hlL : L.length ≤ 100 := by rw [bare_len hmap]; have := HF.out.2; omega
    have hBq := hal.trans (b5.mono hal.size)
    have hbB := bA.lt
    have bG5 := bG.next b5
    have hseq := all1_stops (9 - 1) (by omega) mi mb nx L tL hshL hlL hdaL hleL y w5 wr.heap.size (fun k => wq.heap.size ≤ k ∧ k < w5.heap.size) hBq.size hnds (fun k h => h.2) wq.heap.size w5 (Bel.refl _ _ _) bA
    have hLL := bare_list hmap
    rw [hLL] at hseq
    have hgood : ∀ x : List UInt8 × Nd, (∃ z ∈ L, bare x.2 = bare z) → hasN l x.2.ino = true ∧ oneB x.2 (getN l x.2.ino) = true := fun x ⟨z, hz, e⟩ => by
      obtain ⟨y', hy, e1, e2, e3, e4, e5, e6⟩ := bare_mem hmap hz
      have g := getN_of HT.out.1.rise hy
      have i1 : x.2.ino = z.ino := (congrArg Nd.ino e :)
      have i2 : x.2.kind = z.kind := (congrArg Nd.kind e :)
      have i3 : x.2.links = z.links := (congrArg Nd.links e :)
      have i4 : x.2.data = z.data := (congrArg Nd.data e :)
      have i5 : x.2.parent = z.parent := (congrArg Nd.parent e :)
      have i6 : x.2.ents = z.ents := (congrArg Nd.ents e :)
      rw [i1, ← e1]
      exact ⟨g.2, by rw [g.1]; exact key_ext _ _ (i1.trans e1.symm) (i2.trans e2.symm) (i3.trans e6.symm) (i4.trans e5.symm) (i5.trans e3.symm) (i6.trans e4.symm)⟩
    have HGD := Lib.hid hgood
    have HSQ := Lib.hid hseq
    clear hgood hseq tL hshL hdaL hleL hlL hLL hmap hnds hda hle hv0 bA bG nV1 bF1
    gi_wp2
    refine wpIn_rangeFunc_mine rfl (by omega) (gf := 36) (lb := #[.pointer (some ⟨wq.heap.size, 0, none⟩)]) rfl trivial (enters_of Try.func36 (by kernel_rfl) rfl)
      HSQ.out hBq.size (fun k hk => hk.2) (Below.refl _ _) (fun _ => rfl)
      (fun m pre W => RowI wr wr.heap.size wr.heap.size 31 51 2 (fun (pre : List (List UInt8 × Nd)) => pre.length) (fun pre => entsV (pre.map keyA)) m pre W ∧ pre.length ≤ mN)
      (fun c m pre W => c = .exit 2 ∧ RowI wr wr.heap.size wr.heap.size 31 51 2 (fun (_ : List (List UInt8 × Nd)) => mN) (fun pre => entsV ((pre.take mN).map keyA)) m pre W ∧ pre.length = mN + 1)
      (fun m m' s A B h hT hm => ⟨RowI.abides (Nat.le_refl _) m m' s A B h.1 hT hm, h.2⟩) (fun c m m' s A B h hT hm => ⟨h.1, RowI.abides (Nat.le_refl _) m m' s A B h.2.1 hT hm, h.2.2⟩)
      (fun m s A B row h hg hr => ⟨RowI.book (Nat.le_refl _) hBq.size m s A B row h.1 hg hr, h.2⟩) (fun c m s A B row h hg hr => ⟨h.1, RowI.book (Nat.le_refl _) hBq.size m s A B row h.2.1 hg hr, h.2.2⟩)
      ⟨⟨⟨_, bG5, World.ownsRow_nil _ _ _ _, fun h => by omega, fun g hg => by simp [Value.ownBlock] at hg⟩, hBq, fun r h => by omega⟩, Nat.zero_le _⟩
      (fun x a' W => RdA L x W ∧ ∃ Bx, wr.heap.size ≤ Bx ∧ Blk W Bx 41 (ndC x.2) ∧ a' = { tmps := #[.agg (fsC mi mb nx (.slice a l.length ca)), .int .u8 mN, .pointer (some ⟨w.heap.size, 0, none⟩), .pointer (some ⟨w.heap.size + 1, 0, none⟩), .pointer (some ⟨w.heap.size + 1 + 1, 0, none⟩), .int .i64 (r : Nat), .pointer (some ⟨wr.heap.size, 0, none⟩), .string ⟨x.1.toArray⟩, .pointer (some ⟨Bx, 0, none⟩), s 9, s 10, s 11, s 12, s 13, s 14, s 15, s 16, s 17, s 18, s 19, .int .i64 (r : Nat), .bool true, s 22, s 23, .agg #[.int .i64 mi, .int .i64 mb, .int .i64 nx, .slice a l.length ca], .func (.func 36) #[] #[.pointer (some ⟨wq.heap.size, 0, none⟩)], .string ⟨x.1.toArray⟩, .agg (ndC x.2), s 28, s 29, s 30, s 31, s 32, s 33, s 34, s 35, s 36, s 37, s 38, s 39, s 40, s 41, s 42, s 43, s 44, s 45, s 46, s 47, s 48, s 49, s 50, s 51, s 52, s 53, s 54, s 55, s 56, s 57, s 58, s 59, s 60, s 61, s 62, s 63, s 64, s 65, s 66, s 67, s 68, s 69], defers := [] })
      (fun x a' => (Own.from (fun s A B row hs hg hr => ⟨⟨hs.1.1, ents_own x.2.ev x.2.ents () A B row hs.1.2.1 hg hr, hs.1.2.2⟩, by obtain ⟨Bx, h1, h2, h3⟩ := hs.2; exact ⟨Bx, h1, blk_own (β := Unit) Bx _ (fun _ => ndC x.2) () A B row h2 hg hr, h3⟩⟩) _)) ?assign ?body ?done ?stop
    case assign =>
      intro l' m pre x V KK hl' hI hRd hms hsz hKK
      obtain ⟨xp', xi, xk, xl, xd, xp, xe, xn⟩ := x
      obtain ⟨ae, ce, hxe, _⟩ := hRd.2.1
      dsimp only at hxe
      subst hxe
      have hVs : wr.heap.size ≤ V.heap.size := hI.1.2.1.size
      gi_wp2
      exact hKK _ _ ((KeepsOthers.alloc V _).from _) (KeptM.of_below (alloc_below V _) hVs hms) ⟨RowI.abides (Nat.le_refl _) m m pre V _ hI.1 (Turned.of_below (alloc_below V _)) (fun r h => .inl h), hI.2⟩ ⟨⟨hRd.1, hRd.2.1.below (alloc_below V _), hRd.2.2⟩, V.heap.size, hVs, Blk.new V _ _, rfl⟩
    case body =>
      rintro l' m pre x a' W rfl ⟨rl, hrl⟩ hD hmD hml hms ⟨⟨⟨vv, hvv, hrow, hmB, hmv⟩, hBW, hmn⟩, hpm⟩ ⟨hRd, Bx, hBx, bX, rfl⟩ hpre
      obtain ⟨xp', xi, xk, xl, xd, xp, xe, xn⟩ := x
      obtain ⟨hxp, hxe0, hxL⟩ := hRd
      have hgd := HGD.out (xp', ⟨xi, xk, xl, xd, xp, xe, xn⟩) hxL
      dsimp only at hxp hxe0 bX hrow hgd
      obtain ⟨ae, ce, hxe, _⟩ := id hxe0
      subst hxe
      obtain ⟨av, cv, rfl⟩ := own_slice hrow
      have bFW := bF.next hBW
      have bMW := bM.next hBW
      have nVW := nV.below hBW
      have cG := (hvv.cell 0).trans (rfl : _ = some (Value.slice av pre.length cv))
      have cM := (bMW.cell 0).trans (rfl : _ = some (Value.int .u8 mN))
      have hwm : IntKind.i64.wrap (mN : Int) = (mN : Int) := by rw [IntKind.wrap_i64]; omega
      by_cases hlm : pre.length = mN
      · have heq : ((pre.length : Int) == (mN : Int)) = true := beq_iff_eq.2 (by omega)
        have HLM := Lib.hid hlm
        clear hlm
        gi_wp2
        have htk : ((pre ++ [(xp', (⟨xi, xk, xl, xd, xp, .slice ae xn.length ce, xn⟩ : Nd))]).map keyA).take mN = pre.map keyA := by rw [List.map_append]; exact List.take_left' (by rw [List.length_map]; exact HLM.out)
        refine ⟨⟨rfl, rfl⟩, KeptM.refl _ _ _, rfl, ⟨⟨_, hvv, ?_, hmB, hmv⟩, hBW, hmn⟩, by rw [List.length_append, HLM.out]; rfl⟩
        dsimp only
        rw [htk, ← HLM.out]
        exact hrow
      · have heq : ((pre.length : Int) == (mN : Int)) = false := beq_eq_false_iff_ne.2 (by omega)
        gi_upto_region 11 with fail
        obtain ⟨⟨p0, p1, p2, p3⟩, _⟩ := bFW.four
        have cX := (bX.cell 0).trans (rfl : _ = some (Value.int .i64 xi))
        obtain ⟨ag, ng, cg, hgs⟩ := get_slice nVW xi
        have hge := get_ents nVW.all xi
        have hG := refGetT_any mi mb nx xi l _ W nVW
        rw [hgd.1] at hG
        have HON := Lib.hid hgd.2
        clear hgd
        generalize getN l xi = Y at *
        obtain ⟨yi, yk, yl, yd, yp, ye, yn⟩ := Y
        dsimp only at hgs hge
        subst hgs
        gi_wp2_with fail
        refine ⟨trivial, ?_⟩
        gi_at_call 17
        refine (CallsIn.inRound _ (callsIn_wide.2 hG)).mono ?_
        rintro e w6 ⟨rfl, b6⟩
        clear p0 p1 p2 p3 cX hG
        gi_upto_region 12 with fail
        have b7 := b6.trans ((alloc_below w6 (.cells (ndC ⟨yi, yk, yl, yd, yp, .slice ag ng cg, yn⟩) 41)).mono b6.size)
        have bY := Blk.new w6 41 (ndC ⟨yi, yk, yl, yd, yp, .slice ag ng cg, yn⟩)
        generalize hw7 : w6.alloc (.cells (ndC ⟨yi, yk, yl, yd, yp, .slice ag ng cg, yn⟩) 41) = w7 at *
        clear hw7
        have bX7 := bX.next b7
        obtain ⟨⟨x0, x1, x2, x3, x4, x5⟩, _⟩ := bX7.six
        obtain ⟨⟨y0, y1, y2, y3, y4, y5⟩, _⟩ := bY.six
        dsimp only at x0 x1 x2 x3 x4 x5 y0 y1 y2 y3 y4 y5
        have hO := refOne_any ⟨xi, xk, xl, xd, xp, .slice ae xn.length ce, xn⟩ ⟨yi, yk, yl, yd, yp, .slice ag ng cg, yn⟩ w7 (hxe0.below b7) (hge.below b7)
        rw [HON.out] at hO
        gi_wp2_with fail
        refine ⟨trivial, ?_⟩
        gi_at_call 21
        refine (CallsIn.inRound _ (callsIn_wide.2 hO)).mono ?_
        rintro e w8 ⟨rfl, b8⟩
        clear hO x0 x1 x2 x3 x4 x5 y0 y1 y2 y3 y4 y5
        have b78 := b7.trans (b8.mono b7.size)
        gi_upto_region 14 with fail
        have bX8 := bX.next b78
        have bG8 := hvv.next b78
        have cX8 := (bX8.cell 0).trans (rfl : _ = some (Value.int .i64 xi))
        have cG8 := (bG8.cell 0).trans (rfl : _ = some (Value.slice av pre.length cv))
        have hnw : wr.heap.size ≤ W.heap.size := hBW.size
        have hrow8 := own_keep hrow b78
        have hnw8 := Nat.le_trans hnw b78.size
        gi_wp2_with (gi_at_builtin; refine wpListIn_append_here rfl (.tmp 48) (.tmp 53) 31 51 rfl Try.underlying31 hi hz0 hz1 hz2 rfl (by decide) (by decide) wr.heap.size (v := .slice av pre.length cv) #[.string ⟨xp'.toArray⟩, .int .i64 xi] 1 rfl rfl hrow8 rfl (by simp [Value.oneCell']) (by omega) hnw8 ?_; intro v9 w9 hown9 hgr9 hnew9; obtain ⟨g9, c9, rfl⟩ := ownsRow_succ hown9; have hA9 := (bG8.alloc (.cells #[.string ⟨xp'.toArray⟩, .int .i64 xi] 51)).kept hgr9 (bG8.not_row (by decide) hrow8); have cA9 := (hA9.cell 0).trans (rfl : _ = some (Value.slice av pre.length cv)); have fA9 := hA9.frozen 0)
        obtain ⟨k1, k2, k3⟩ := boxrow_next (m := m) (by decide) hvv hrow hmB hmv hms hnw (Nat.le_refl _) b78 hown9 hgr9 hnew9
        refine ⟨⟨(k1.same _ _ hD rfl).trans hD.symm, (k1.same _ _ hrl rfl).trans hrl.symm⟩, k2, ⟨?_, hBW.trans k2.below, hmn⟩, by rw [List.length_append, List.length_singleton]; omega⟩
        simpa [keyA, entsV_append, entsV] using k3
    case done =>
      rintro m xs W hxs ⟨⟨⟨vv, hvv, hrow, hmB, hmv⟩, hBW, hmn⟩, hpm⟩ hmD hml hD
      dsimp only at hrow
      have hlen : xs.length = (listN l).length := by rw [← hxs, List.length_map]
      rw [hxs, hlen] at hrow
      rw [hlen] at hpm
      clear hlen hxs
      have bFW := bF.next hBW
      have bMW := bM.next hBW
      have nVW := nV.below hBW
      obtain ⟨av, cv, rfl⟩ := own_slice hrow
      obtain ⟨⟨p0, p1, p2, p3⟩, _⟩ := bFW.four
      have hw1 : IntKind.i64.wrap ((r : Int) + 1) = (r : Int) + 1 := by rw [IntKind.wrap_i64]; omega
      have hwm : IntKind.i64.wrap (mN : Int) = (mN : Int) := by rw [IntKind.wrap_i64]; omega
      (gi_wp2_with fail; refine ⟨trivial, ?_⟩; gi_at_call 12; refine (callsIn_wide.2 (refList_any mi mb nx l _ _ nVW HT.out.2.1 (by have := HF.out.2; omega) HT.out.2.2.2)).mono ?_; rintro e w6 ⟨y6, rfl, hown6, b6⟩)
      clear p0 p1 p2 p3
      obtain ⟨ay, cy, rfl⟩ := own_slice hown6
      have cM := ((bMW.next b6).cell 0).trans (rfl : _ = some (Value.int .u8 mN))
      have cG := ((hvv.next b6).cell 0).trans (rfl : _ = some (Value.slice av (listN l).length cv))
      have hrow6 := own_keep hrow b6
      have hgt : ¬ ((mN : Int) < ((listN l).length : Int)) := by omega
      have hS := fun V (h : Below w6.heap.size w6 V) => refSameS_any (listN l) (listN l) _ _ V (own_ents (own_keep hrow6 h)) (own_ents (own_keep hown6 h))
      rw [decide_eq_true (rfl : listN l = listN l)] at hS
      have HS := Lib.hid hS
      clear hS
      generalize (listN l).length = LN at *
      (gi_wp2_with fail; refine ⟨trivial, ?_⟩; gi_at_call 10; refine (callsIn_wide.2 (HS.out _ (Below.refl _ _))).mono ?_; rintro e w7 ⟨rfl, b7⟩)
      gi_wp2
      have hT := (hBW.trans (b6.mono hBW.size)).trans (b7.mono (Nat.le_trans hBW.size b6.size))
      have hDl : w5.heap.size < W.heap.size := (Array.getElem?_eq_some_iff.1 hD).1
      have hw5 := hBq.size
      refine ⟨k - 1, by omega, HJ.out _ _ _ ⟨r + 1, _, w5.heap.size :: ds, by omega, rfl, rfl, ⟨rfl, rfl, rfl, rfl, rfl, by go_num⟩, ?_, ?_, hB.trans (hT.mono hB.size), bF.next hT, bM.next hT, bR.next hT, nV.below hT⟩⟩
      · exact List.nodup_cons.2 ⟨fun h => by have := (Array.getElem?_eq_some_iff.1 (hds _ h).2).1; omega, hnd⟩
      · intro d hd
        rcases List.mem_cons.1 hd with rfl | hd
        · exact ⟨Nat.le_trans hB.size hw5, (b7.block _ (Nat.lt_of_lt_of_le hDl b6.size)).trans ((b6.block _ hDl).trans hD)⟩
        · exact ⟨(hds d hd).1, (hT.block _ (Array.getElem?_eq_some_iff.1 (hds d hd).2).1).trans (hds d hd).2⟩
    case stop =>
      rintro c m xs W hpf ⟨rfl, ⟨⟨vv, hvv, hrow, hmB, hmv⟩, hBW, hmn⟩, hpl⟩ hmD hml hD
      dsimp only at hrow
      obtain ⟨tl, htl⟩ := hpf
      have hLm : mN < (listN l).length := by rw [← htl, List.length_append, List.length_map]; omega
      have hgot : (xs.map keyA).take mN = (listN l).take mN := by rw [← htl, List.take_append_of_le_length (by rw [List.length_map]; omega)]
      rw [List.map_take, hgot] at hrow
      clear hgot htl hpl
      have bFW := bF.next hBW
      have bMW := bM.next hBW
      have nVW := nV.below hBW
      obtain ⟨av, cv, rfl⟩ := own_slice hrow
      obtain ⟨⟨p0, p1, p2, p3⟩, _⟩ := bFW.four
      have hw1 : IntKind.i64.wrap ((r : Int) + 1) = (r : Int) + 1 := by rw [IntKind.wrap_i64]; omega
      have hwm : IntKind.i64.wrap (mN : Int) = (mN : Int) := by rw [IntKind.wrap_i64]; omega
      (gi_wp2_with fail; refine ⟨trivial, ?_⟩; gi_at_call 12; refine (callsIn_wide.2 (refList_any mi mb nx l _ _ nVW HT.out.2.1 (by have := HF.out.2; omega) HT.out.2.2.2)).mono ?_; rintro e w6 ⟨y6, rfl, hown6, b6⟩)
      clear p0 p1 p2 p3
      obtain ⟨ay, cy, rfl⟩ := own_slice hown6
      have cM := ((bMW.next b6).cell 0).trans (rfl : _ = some (Value.int .u8 mN))
      have cG := ((hvv.next b6).cell 0).trans (rfl : _ = some (Value.slice av mN cv))
      have hrow6 := own_keep hrow b6
      have hgt : (mN : Int) < ((listN l).length : Int) := by omega
      obtain ⟨g6, rfl, hc6, hm6⟩ : ∃ g, ay = some ⟨g, 0, none⟩ ∧ (listN l).length ≤ cy ∧ cy ≤ maxLen := by
        rcases own_cases hown6 with ⟨_, h0, _⟩ | ⟨g, c', h, _, _, h1, h2⟩
        · omega
        · simp only [Value.slice.injEq] at h; obtain ⟨h3, _, rfl⟩ := h; exact ⟨g, h3, h1, h2⟩
      unfold maxLen at hm6
      have k0 : (0 : Int) ≤ (mN : Int) := by omega
      have kc : (mN : Int) ≤ (cy : Int) := by omega
      have kz : ¬ cy = 0 := by omega
      have hEW := (own_ents hown6).head mN cy (Nat.le_of_lt hLm) (by omega) (by unfold maxLen; omega)
      have hS := fun V (h : Below w6.heap.size w6 V) => refSameS_any ((listN l).take mN) ((listN l).take mN) _ _ V (own_ents (own_keep hrow6 h)) (hEW.below h)
      rw [decide_eq_true (rfl : (listN l).take mN = (listN l).take mN)] at hS
      have HS := Lib.hid hS
      clear hS hEW
      generalize (listN l).length = LN at *
      (gi_wp2_with fail; refine ⟨trivial, ?_⟩; gi_at_call 10; refine (callsIn_wide.2 (HS.out _ (Below.refl _ _))).mono ?_; rintro e w7 ⟨rfl, b7⟩)
      gi_wp2
      have hT := (hBW.trans (b6.mono hBW.size)).trans (b7.mono (Nat.le_trans hBW.size b6.size))
      have hDl : w5.heap.size < W.heap.size := (Array.getElem?_eq_some_iff.1 hD).1
      have hw5 := hBq.size
      refine ⟨k - 1, by omega, HJ.out _ _ _ ⟨r + 1, _, w5.heap.size :: ds, by omega, rfl, rfl, ⟨rfl, rfl, rfl, rfl, rfl, by go_num⟩, ?_, ?_, hB.trans (hT.mono hB.size), bF.next hT, bM.next hT, bR.next hT, nV.below hT⟩⟩
      · exact List.nodup_cons.2 ⟨fun h => by have := (Array.getElem?_eq_some_iff.1 (hds _ h).2).1; omega, hnd⟩
      · intro d hd
        rcases List.mem_cons.1 hd with rfl | hd
        · exact ⟨Nat.le_trans hB.size hw5, (b7.block _ (Nat.lt_of_lt_of_le hDl b6.size)).trans ((b6.block _ hDl).trans hD)⟩
        · exact ⟨(hds d hd).1, (hT.block _ (Array.getElem?_eq_some_iff.1 (hds d hd).2).1).trans (hds d hd).2⟩
  · obtain rfl : r = 2 := by omega
    have r0 := (bR.cell 0).trans (rfl : _ = some (Value.bool false))
    have rf := bR.frozen 0
    have bR2 := bR.set 0 (.bool true)
    have hB9 := hB.setCell (p := ⟨w.heap.size + 1 + 1, 0, none⟩) (by show _ ≤ w.heap.size + 1 + 1; omega) (.bool true)
    gi_wp2
    refine leaves_marks ds _ hnd (fun d hd => ?_) (fun W' h1 h2 h3 h4 h5 => ?_)
    · have hne : d ≠ w.heap.size + 1 + 1 := fun e => by have h := (hds d hd).2; rw [e, show wr.heap[w.heap.size + 1 + 1]? = _ from bR] at h; cases h
      exact (Below.heap_setCell _ _ _ d (fun e => hne (by first | exact e | exact e.symm))).trans (hds d hd).2
    · have hn : w.heap.size + 1 + 1 ∉ ds := fun hd => by have h := (hds _ hd).2; rw [show wr.heap[w.heap.size + 1 + 1]? = _ from bR] at h; cases h
      have r1 := ((show Blk W' (w.heap.size + 1 + 1) 4 #[.bool true] from (h5 _ hn).trans bR2).cell 0).trans (rfl : _ = some (Value.bool true))
      refine ⟨_, by simp [results, Try.f5, go_sem, r1], rfl, ?_⟩
      exact hB9.trans ⟨h1, h2, h3, h4, fun k hk => h5 k (fun hd => by have := (hds k hd).1; omega)⟩

namespace LWalkLeft
set_option maxRecDepth 100000 in
theorem lifted (os : Os) (started : os.Started) (H : Type) (enc : TypeId × Value → H) :
    ReturnsInHanded {} Try.checked os 5 .any (Rows.walkLeftSpec.pre6 enc Try.prog Try.f5 Rows.walkLeftRow.domain false) (Rows.walkLeftSpec.post enc Try.prog Try.f5 false true false false) := by
  refine returnsInHanded_of_change (C := Try.checked) (by kernel_rfl) started (by kernel_rfl) Try.func5
    (ChangeSpec.witness6 (enc := enc) (C := Try.checked) false ⟨#[], #[.agg #[.int .i64 0, .int .i64 0, .int .i64 0, .slice none 0 0], .int .u8 0], []⟩ 8 (by kernel_rfl) (by kernel_rfl) (by kernel_rfl) (by kernel_rfl)) ?_
  intro W base args ds gs before hval0 hW hcnd _
  have hval : ∀ (j : Nat) t v, Try.f5.params[j]? = some t → args[j]? = some v → Value.okWide Try.prog W .any base t v := hval0
  have hW' := hW
  obtain ⟨p, q, hA0, hV, rfl, hfz, hnd⟩ := hW
  have hA : DataW.TrodAll enc Try.prog W 0 (fun _ => true) true Try.f5.params.toList args.toList ds p := hA0
  rw [Try.params5] at hA hval
  obtain ⟨v0, vs0, d0, ds0, p0, q0, hargs, rfl, rfl, k0, r0⟩ := trodAll_cons hA
  obtain ⟨v1, vs1, d1, ds1, p1, q1, rfl, rfl, rfl, k1, r1⟩ := trodAll_cons r0
  obtain ⟨rfl, rfl, rfl⟩ := trodAll_nil r1
  obtain rfl : args = #[v0, v1] := by cases args; simp_all
  obtain ⟨rfl, rfl⟩ := trodVars_none hV
  have ok0 := hval 0 24 v0 rfl rfl
  have ok1 := hval 1 5 v1 rfl rfl
  have lt0 : ∀ x ∈ p0, x.block < W.heap.size := by obtain ⟨m, hm⟩ := k0; exact DataW.trod_lt m _ _ _ hm
  have lt1 : ∀ x ∈ p1, x.block < W.heap.size := by obtain ⟨m, hm⟩ := k1; exact DataW.trod_lt m _ _ _ hm
  have C : Calls Try.prog 5 #[v0, v1] W fun e w' => e = .returned (.bool true) ∧ Below W.heap.size W w' := by
    clear hA0 hval0 hval hW' hcnd hV hfz hnd
    obtain ⟨mi, mb, nx, x, l, rfl, hx⟩ := fs_of_trod k0 ok0
    obtain ⟨i, rfl, rfl, rfl, hi⟩ := open_int Try.underlying5 ok1 k1
    have hi2 : 0 ≤ i ∧ i < 256 := by
      have h : IntKind.u8.min ≤ i ∧ i ≤ IntKind.u8.max := by simpa [Lit.wf] using hi
      rw [show IntKind.u8.min = 0 from by decide, show IntKind.u8.max = 255 from by decide] at h
      omega
    obtain ⟨mN, rfl⟩ : ∃ k : Nat, i = k := ⟨i.toNat, by omega⟩
    exact lawLeft mi mb nx mN (by omega) l x W hx
  refine C.mono fun e W' ⟨he, bel⟩ => ?_
  subst he
  exact ⟨_, rfl, _, _, _, [], _, [], hW', trodAll_mk1 (shut_bool Try.underlying4 _), (trodAll_cons_mk (Below.trod laidOut (by kernel_rfl) (of_decide_eq_true (by kernel_rfl)) k0 bel lt0) (trodAll_cons_mk (Below.trod laidOut (by kernel_rfl) (of_decide_eq_true (by kernel_rfl)) k1 bel lt1) trodAll_mk0)), rfl, bel.frame _, fun h => by cases h⟩
theorem proved : Rows.WalkLeftSaid :=
  OpenClaim.holds_of_wide 5 Try.f5 rfl rfl rfl rfl rfl rfl rfl ⟨rfl, rfl, rfl, rfl, rfl⟩ rfl rfl rfl rfl rfl (by kernel_rfl) Try.func5 (by kernel_rfl)
    (of_decide_eq_true (by kernel_rfl)) (by unfold Func.isWrapper; first | (rw [if_pos (by decide +kernel)]; kernel_rfl) | (rw [if_neg (by decide +kernel)]; exact ⟨rfl, rfl⟩))
    (fun os started H enc _ => lifted os started H enc)
#print axioms proved
end LWalkLeft
end Go.Proofs.Ytneklkjlcpgdgaa
