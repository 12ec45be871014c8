import Derived.Test.YtpeghnhaekebdaaQMWalkQ16
import Derived.Laws.StructEq
set_option linter.unusedVariables false
set_option linter.unusedSimpArgs false
/- Walks: the program's Same. -/
set_option linter.unusedVariables false
set_option linter.unusedSimpArgs false
namespace Go.Proofs.Ytpeghnhaekebdaa
open Go.RowKit

theorem SideS.lower {wi w1 w : World} {B M : Nat} {mi mb nx : Int} {v vr : Value} {S : List Int} {K : List Ent} (h : SideS w1 w B M mi mb nx v vr S K) (hw : wi.heap.size ≤ w1.heap.size) : SideS wi w B M mi mb nx v vr S K :=
  ⟨h.box, h.firsts, own_base h.row hw, Nat.le_trans hw h.b0, Nat.le_trans hw h.m0, h.bm, h.rb, h.nums⟩
theorem SideS.next {wi w w' : World} {B M : Nat} {mi mb nx : Int} {v vr : Value} {S : List Int} {K : List Ent} (h : SideS wi w B M mi mb nx v vr S K) (hb : Below w.heap.size w w') : SideS wi w' B M mi mb nx v vr S K :=
  ⟨h.box.next hb, h.firsts.next hb, own_keep h.row hb, h.b0, h.m0, h.bm, h.rb, h.nums⟩
/-- No block of the one side is the other one's. -/
def Dist3 (BA MA : Nat) (ra : Value) (BB MB : Nat) (rb : Value) : Prop := ∀ k, (k = BA ∨ k = MA ∨ ra.ownBlock = some k) → k ≠ BB ∧ k ≠ MB ∧ rb.ownBlock ≠ some k
theorem Dist3.symm {BA MA BB MB : Nat} {ra rb : Value} (h : Dist3 BA MA ra BB MB rb) : Dist3 BB MB rb BA MA ra := by
  intro k hk
  refine ⟨fun e => ?_, fun e => ?_, fun e => ?_⟩
  · have := h k (.inl e)
    rcases hk with c | c | c
    · exact this.1 c
    · exact this.2.1 c
    · exact this.2.2 c
  · have := h k (.inr (.inl e))
    rcases hk with c | c | c
    · exact this.1 c
    · exact this.2.1 c
    · exact this.2.2 c
  · have := h k (.inr (.inr e))
    rcases hk with c | c | c
    · exact this.1 c
    · exact this.2.1 c
    · exact this.2.2 c
theorem SideS.lts {wi w : World} {B M : Nat} {mi mb nx : Int} {v vr : Value} {S : List Int} {K : List Ent} (h : SideS wi w B M mi mb nx v vr S K) {k : Nat} (hk : k = B ∨ k = M ∨ vr.ownBlock = some k) : wi.heap.size ≤ k ∧ k < w.heap.size := by
  rcases hk with rfl | rfl | c
  · exact ⟨h.b0, h.box.lt⟩
  · exact ⟨h.m0, h.firsts.lt⟩
  · exact h.row.lt k c
theorem dist_new {wi w w' : World} {BA MA BB MB : Nat} {ma ba na mb bb nb : Int} {va vb ra rb : Value} {S T : List Int} {K L : List Ent} (hA : SideS wi w BA MA ma ba na va ra S K) (hB : SideS w w' BB MB mb bb nb vb rb T L) : Dist3 BA MA ra BB MB rb := by
  intro k hk
  have h1 := (hA.lts hk).2
  have h2 := fun (j : Nat) (hj : j = BB ∨ j = MB ∨ rb.ownBlock = some j) => (hB.lts hj).1
  exact ⟨fun e => by have := h2 k (.inl e); omega, fun e => by have := h2 k (.inr (.inl e)); omega, fun e => by have := h2 k (.inr (.inr e)); omega⟩
theorem dist_step {wi w : World} {BA MA BB MB : Nat} {mb bb nb : Int} {vb ra ra' rb : Value} {T : List Int} {L : List Ent} (h : Dist3 BA MA ra BB MB rb) (hB : SideS wi w BB MB mb bb nb vb rb T L) (hn : ∀ g, ra'.ownBlock = some g → ra.ownBlock = some g ∨ w.heap.size ≤ g) : Dist3 BA MA ra' BB MB rb := by
  intro k hk
  by_cases hk2 : k = BA ∨ k = MA ∨ ra.ownBlock = some k
  · exact h k hk2
  · have h3 : w.heap.size ≤ k := by
      rcases hk with c | c | c
      · exact absurd (.inl c) hk2
      · exact absurd (.inr (.inl c)) hk2
      · exact (hn k c).resolve_left (fun d => hk2 (.inr (.inr d)))
    have h2 := fun (j : Nat) (hj : j = BB ∨ j = MB ∨ rb.ownBlock = some j) => (hB.lts hj).2
    exact ⟨fun e => by have := h2 k (.inl e); omega, fun e => by have := h2 k (.inr (.inl e)); omega, fun e => by have := h2 k (.inr (.inr e)); omega⟩

set_option maxRecDepth 100000 in
theorem sideOf_any (mi mb nx : Int) (l : List Nd) (v : Value) (w : World) (hv : Nds w v l) :
    Calls Try.prog 22 #[.agg (fsC mi mb nx v)] w fun e w' => ∃ B M vr, e = .returned (.pointer (some ⟨B, 0, none⟩)) ∧ SideS w w' B M mi mb nx v vr [] [rootE] ∧ Below w.heap.size w w' := by
  have hmm := @run_makeMap Try.prog
  obtain ⟨a, ca, rfl⟩ := nds_slice hv
  have bF := Blk.new w 24 (fsC mi mb nx (.slice a l.length ca))
  obtain ⟨⟨p0, p1, p2, p3⟩, _⟩ := bF.four
  have h1 := alloc_below w (.cells (fsC mi mb nx (.slice a l.length ca)) 24)
  have hM := Firsts.made (w.alloc (.cells (fsC mi mb nx (.slice a l.length ca)) 24))
  clear bF hv
  go_enter Try.func22, Try.ntmps22
  go_wp2
  go_ret
  have hs1 : (w.alloc (.cells (fsC mi mb nx (.slice a l.length ca)) 24)).heap.size = w.heap.size + 1 := by simp
  generalize w.alloc (.cells (fsC mi mb nx (.slice a l.length ca)) 24) = w1 at *
  have h2 := h1.alloc (by omega) (.map #[] 0)
  have hs2 : (w1.alloc (.map #[] 0)).heap.size = w.heap.size + 1 + 1 := by simp [hs1]
  rw [hs1] at hM
  generalize w1.alloc (.map #[] 0) = w2 at *
  have hr := World.ownsRow_lit (base := w.heap.size) (e := 59) (size := 2) w2 #[.string ⟨#[]⟩, .int .i64 1] 1 (by omega) (by decide) rfl
  have h3 := h2.alloc (by omega) (.cells #[.string ⟨#[]⟩, .int .i64 1] 59)
  have hM3 := hM.next (alloc_below w2 (.cells #[.string ⟨#[]⟩, .int .i64 1] 59))
  have hs3 : (w2.alloc (.cells #[.string ⟨#[]⟩, .int .i64 1] 59)).heap.size = w.heap.size + 1 + 1 + 1 := by simp [hs2]
  rw [hs2] at hr
  generalize w2.alloc (.cells #[.string ⟨#[]⟩, .int .i64 1] 59) = w3 at *
  have h4 := h3.alloc (by omega) (.cells #[.int .i64 mi, .int .i64 mb, .int .i64 nx, .slice a l.length ca, .map (some (w.heap.size + 1)), .slice (some ⟨w.heap.size + 1 + 1, 0, none⟩) 1 1] 51)
  have hM4 := hM3.next (alloc_below w3 (.cells #[.int .i64 mi, .int .i64 mb, .int .i64 nx, .slice a l.length ca, .map (some (w.heap.size + 1)), .slice (some ⟨w.heap.size + 1 + 1, 0, none⟩) 1 1] 51))
  have hr4 := hr.alloc (.cells #[.int .i64 mi, .int .i64 mb, .int .i64 nx, .slice a l.length ca, .map (some (w.heap.size + 1)), .slice (some ⟨w.heap.size + 1 + 1, 0, none⟩) 1 1] 51)
  have hb4 := Blk.new w3 51 #[.int .i64 mi, .int .i64 mb, .int .i64 nx, .slice a l.length ca, .map (some (w.heap.size + 1)), .slice (some ⟨w.heap.size + 1 + 1, 0, none⟩) 1 1]
  rw [hs3] at hb4
  refine ⟨w.heap.size + 1 + 1 + 1, w.heap.size + 1, .slice (some ⟨w.heap.size + 1 + 1, 0, none⟩) 1 1, rfl, ⟨hb4, hM4, hr4, by omega, by omega, by omega, fun k hk => ?_, fun x hx => ?_⟩, h4⟩
  · have hk2 : w.heap.size + 1 + 1 = k := by simpa [Value.ownBlock] using hk
    exact ⟨by omega, by omega⟩
  · rw [List.mem_singleton.1 hx]
    exact int_b (by decide) (by decide)
/-- What holds ahead of each line. -/
structure SameI (a b : List Nd) (S T : List Int) (K K' : List Ent) : Prop where
  come : S.length = T.length
  togo : K.length = K'.length
  left : S.length + leftN a S K ≤ 1 + entsN a
  iff : Agree a b K S K' T ↔ shapeN a = shapeN b
theorem SameI.step {a b : List Nd} {S T : List Int} {e f : Ent} {r s : List Ent} (h : SameI a b S T (e :: r) (f :: s)) (hl : linN a S e = linN b T f) : SameI a b (S ++ [e.2]) (T ++ [f.2]) ((moreN a S e).reverse ++ r) ((moreN b T f).reverse ++ s) := by
  have h1 := left_next a S e r
  have h2 := h.left
  have h3 := h.togo
  have h4 := more_len h.come hl
  refine ⟨by simp [h.come], ?_, ?_, by rw [← h.iff, agree_step]; exact ⟨fun c => ⟨hl, c⟩, fun c => c.2⟩⟩
  · simp only [List.length_append, List.length_reverse, List.length_cons] at h3 ⊢
    omega
  · rw [List.length_append]
    simp only [List.length_cons, List.length_nil]
    omega
theorem SameI.no {a b : List Nd} {S T : List Int} {e f : Ent} {r s : List Ent} (h : SameI a b S T (e :: r) (f :: s)) (hl : linN a S e ≠ linN b T f) : decide (shapeN a = shapeN b) = false := by
  rw [decide_eq_false_iff_not, ← h.iff, agree_step]
  exact fun c => hl c.1
theorem SameI.yes {a b : List Nd} {S T : List Int} {K' : List Ent} (h : SameI a b S T [] K') : decide (shapeN a = shapeN b) = true := by
  have h2 : K' = [] := List.eq_nil_of_length_eq_zero (by have := h.togo; simpa using this.symm)
  subst h2
  rw [decide_eq_true_eq, ← h.iff]
  exact .done _ _

set_option maxHeartbeats 8000000 in
set_option maxRecDepth 100000 in
theorem Same16_any (ma ba na mb bb nb : Int) (la lb : List Nd) (va vb : Value) (w : World) (ha : Nds w va la) (hb : Nds w vb lb) (oa : OkS ma ba na la) (ob : OkS mb bb nb lb) (ta : Trim la) (tb : Trim lb) :
    Calls Try.prog 11 #[.agg (fsC ma ba na va), .agg (fsC mb bb nb vb)] w fun e w' => e = .returned (.bool (decide (shapeN la = shapeN lb))) ∧ Below w.heap.size w w' := by
  have HAG := Lib.hid (agree_shape (tree_c oa.check) (tree_c ob.check) (fun i => (calm_ents oa.calm i).1) (fun i => (calm_ents ob.calm i).1))
  have hex : 1 + entsN la ≤ 1000000 := by have := list_exact (tree_c oa.check); have := ta.walk; omega
  obtain ⟨a, ca, rfl⟩ := nds_slice ha
  obtain ⟨b, cb, rfl⟩ := nds_slice hb
  have bA := (Blk.new w 24 (fsC ma ba na (.slice a la.length ca))).alloc (.cells (fsC mb bb nb (.slice b lb.length cb)) 24)
  have bB := Blk.new (w.alloc (.cells (fsC ma ba na (.slice a la.length ca)) 24)) 24 (fsC mb bb nb (.slice b lb.length cb))
  have hB := ((Below.refl w.heap.size w).alloc (Nat.le_refl _) (.cells (fsC ma ba na (.slice a la.length ca)) 24)).alloc (by simp) (.cells (fsC mb bb nb (.slice b lb.length cb)) 24)
  simp only [World.size_alloc] at bB
  have HA := Lib.hid ha
  have HBn := Lib.hid hb
  clear ha hb
  go_enter Try.func11, Try.ntmps11
  go_upto_region 1 with fail
  generalize (w.alloc (.cells (fsC ma ba na (.slice a la.length ca)) 24)).alloc (.cells (fsC mb bb nb (.slice b lb.length cb)) 24) = w0 at *
  have HMK : ∀ W, Below w0.heap.size w0 W → (W.cell? ⟨w.heap.size, 0, none⟩ = some (.int .i64 ma) ∧ W.cell? ⟨w.heap.size, 1, none⟩ = some (.int .i64 ba) ∧ W.cell? ⟨w.heap.size, 2, none⟩ = some (.int .i64 na) ∧ W.cell? ⟨w.heap.size, 3, none⟩ = some (.slice a la.length ca) ∧ W.cell? ⟨w.heap.size + 1, 0, none⟩ = some (.int .i64 mb) ∧ W.cell? ⟨w.heap.size + 1, 1, none⟩ = some (.int .i64 bb) ∧ W.cell? ⟨w.heap.size + 1, 2, none⟩ = some (.int .i64 nb) ∧ W.cell? ⟨w.heap.size + 1, 3, none⟩ = some (.slice b lb.length cb)) := by
    intro W h
    obtain ⟨⟨x0, x1, x2, x3⟩, _⟩ := (bA.next h).four
    obtain ⟨⟨y0, y1, y2, y3⟩, _⟩ := (bB.next h).four
    exact ⟨x0, x1, x2, x3, y0, y1, y2, y3⟩
  have hq : Below w0.heap.size w0 w0.drew := (Below.refl _ _).drew
  have hSA := fun W (h : Below w0.heap.size w0 W) => sideOf_any ma ba na la (.slice a la.length ca) W (HA.out.below (hB.trans (h.mono hB.size)))
  have hSB := fun W (h : Below w0.heap.size w0 W) => sideOf_any mb bb nb lb (.slice b lb.length cb) W (HBn.out.below (hB.trans (h.mono hB.size)))
  clear bA bB
  go_cut [5, 6] from 8 (fun s5 s6 wc => ∃ BA MA ra BB MB rb, s5 = .pointer (some ⟨BA, 0, none⟩) ∧ s6 = .pointer (some ⟨BB, 0, none⟩) ∧ Below w0.heap.size w0 wc ∧ Aside (SideS w wc BA MA ma ba na (.slice a la.length ca) ra [] [rootE]) ∧ Aside (SideS w wc BB MB mb bb nb (.slice b lb.length cb) rb [] [rootE]) ∧ Aside (Dist3 BA MA ra BB MB rb))
  case first =>
    go_region_held3 (fun W => W.cell? ⟨w.heap.size, 0, none⟩ = some (.int .i64 ma) ∧ W.cell? ⟨w.heap.size, 1, none⟩ = some (.int .i64 ba) ∧ W.cell? ⟨w.heap.size, 2, none⟩ = some (.int .i64 na) ∧ W.cell? ⟨w.heap.size, 3, none⟩ = some (.slice a la.length ca) ∧ W.cell? ⟨w.heap.size + 1, 0, none⟩ = some (.int .i64 mb) ∧ W.cell? ⟨w.heap.size + 1, 1, none⟩ = some (.int .i64 bb) ∧ W.cell? ⟨w.heap.size + 1, 2, none⟩ = some (.int .i64 nb) ∧ W.cell? ⟨w.heap.size + 1, 3, none⟩ = some (.slice b lb.length cb))
      (exact HMK _ hq)
      (first
        | (go_at_call 22; (with_reducible refine (hSA _ hq).mono ?_); rintro e wz ⟨BA, MA, ra, rfl, sA0, bz⟩; (try have hD := (dist_new sB sA0).symm); have sA := sA0.lower (Nat.le_trans hB.size hq.size); (try replace sB := sB.next bz); have hq := hq.trans (bz.mono hq.size))
        | (go_at_call 22; (with_reducible refine (hSB _ hq).mono ?_); rintro e wz ⟨BB, MB, rb, rfl, sB0, bz⟩; (try have hD := dist_new sA sB0); have sB := sB0.lower (Nat.le_trans hB.size hq.size); (try replace sA := sA.next bz); have hq := hq.trans (bz.mono hq.size)))
    all_goals (go_wp2_with fail; go_meet)
    all_goals exact ⟨BA, MA, ra, BB, MB, rb, rfl, rfl, hq, sA, sB, hD⟩
  case rest =>
    obtain ⟨BA, MA, ra0, BB, MB, rb0, rfl, rfl, hbc, SA, SB, HD⟩ := hcut
    have hB2 := hB.trans (hbc.mono hB.size)
    clear hSA hSB HMK hq hbc
    have HAG0 : SameI la lb [] [] [rootE] [rootE] := ⟨rfl, rfl, by unfold leftN; rw [rest_nil]; simp, HAG.out⟩
    go_wp2
    go_loopw [7] (fun s7 wr => ∃ S T K K' ra rb, s7 = .int .i64 (S.length : Nat) ∧ Below w.heap.size w wr ∧ Aside (SameI la lb S T K K') ∧ Aside (SideS w wr BA MA ma ba na (.slice a la.length ca) ra S K) ∧ Aside (SideS w wr BB MB mb bb nb (.slice b lb.length cb) rb T K') ∧ Aside (Dist3 BA MA ra BB MB rb)) (fun s7 _ => 1000001 - (intOf s7).toNat)
    case atStart => exact ⟨[], [], [rootE], [rootE], ra0, rb0, rfl, hB2, HAG0, SA, SB, HD⟩
    case round =>
      obtain ⟨S, T, K, K', ra, rb, rfl, hbw, HS, SA2, SB2, HD2⟩ := hrel
      cases K with
      | nil =>
        have hy : Hid (decide (shapeN la = shapeN lb) = true) := HS.out.yes
        obtain ⟨q0, q1, q2, q3, q4, q5⟩ := SA2.out.box.sides
        obtain ⟨ar, cr, rfl⟩ := own_slice SA2.out.row
        go_wp2
        go_ret
        exact ⟨by rw [hy.out]; rfl, hbw⟩
      | cons e r =>
        cases K' with
        | nil => exact absurd HS.out.togo (by simp)
        | cons f s =>
          have hl := HS.out.left
          have htg := HS.out.togo
          have hco := HS.out.come
          unfold leftN at hl
          simp only [List.length_cons] at hl htg
          have hN1 := next16_any ma ba na la (.slice a la.length ca) ra w wr BA MA S e r HA.out hbw oa ta SA2.out (by omega) (by omega)
          obtain ⟨q0, q1, q2, q3, q4, q5⟩ := SA2.out.box.sides
          obtain ⟨ar, cr, hra⟩ := own_slice SA2.out.row
          have HRA := Lib.hid hra
          rw [hra] at q5
          clear hra
          have hnp : (0 : Int) < ((e :: r).length : Int) := by simp
          have HST := Lib.hid (fun h : linN la S e = linN lb T f => HS.out.step h)
          have HNO := Lib.hid (fun h : linN la S e ≠ linN lb T f => HS.out.no h)
          generalize (e :: r).length = nr at hnp q5
          have HCO := Lib.hid hco
          have HL := Lib.hid hl
          have HTG := Lib.hid htg
          clear hl htg hco
          go_wp2_with fail
          refine hN1.mono ?_
          rintro e' w5 ⟨ra', rfl, sA5, g5, n5⟩
          have sB5 := SB2.out.away g5 HD2.out.symm
          have hD5 := dist_step HD2.out SB2.out n5
          have hb5 := Gone3.low hbw g5 hbw.size SA2.out.b0 SA2.out.m0 (fun k hk => (SA2.out.row.lt k hk).1)
          have hN2 := next16_any mb bb nb lb (.slice b lb.length cb) rb w w5 BB MB T f s HBn.out hb5 ob tb sB5 (by have := HCO.out; have := HL.out; omega) (by have := HTG.out; have := HL.out; omega)
          rw [← HCO.out] at hN2
          generalize linN la S e = LA at *
          clear hN1 q0 q1 q2 q3 q4 q5 hnp
          go_wp2_with fail
          refine hN2.mono ?_
          rintro e' w6 ⟨rb', rfl, sB6, g6, n6⟩
          have sA6 := sA5.away g6 hD5
          have hD6 := (dist_step hD5.symm sA5 n6).symm
          have hb6 := Gone3.low hb5 g6 hb5.size sB5.b0 sB5.m0 (fun k hk => (sB5.row.lt k hk).1)
          generalize linN lb T f = LB at *
          have HSA6 := Lib.hid sA6
          have HSB6 := Lib.hid sB6
          have HD6 := Lib.hid hD6
          clear hN2 sA5 g5 n5 sB5 hD5 hb5 sB6 g6 n6 sA6 hD6
          cases h1 : LA.name == LB.name
          · have hne2 : Hid (decide (shapeN la = shapeN lb) = false) := HNO.out (by rintro rfl; simp at h1)
            go_wp2
            go_ret
            exact ⟨by rw [hne2.out]; rfl, hb6⟩
          cases h2 : LA.first == LB.first
          · have hne2 : Hid (decide (shapeN la = shapeN lb) = false) := HNO.out (by rintro rfl; simp at h2)
            go_wp2
            go_ret
            exact ⟨by rw [hne2.out]; rfl, hb6⟩
          cases h3 : LA.kind == LB.kind
          · have hne2 : Hid (decide (shapeN la = shapeN lb) = false) := HNO.out (by rintro rfl; simp at h3)
            go_wp2
            go_ret
            exact ⟨by rw [hne2.out]; rfl, hb6⟩
          cases h4 : LA.data == LB.data
          · have hne2 : Hid (decide (shapeN la = shapeN lb) = false) := HNO.out (by rintro rfl; simp at h4)
            go_wp2
            go_ret
            exact ⟨by rw [hne2.out]; rfl, hb6⟩
          cases h5 : LA.ents == LB.ents
          · have hne2 : Hid (decide (shapeN la = shapeN lb) = false) := HNO.out (by rintro rfl; simp at h5)
            go_wp2
            go_ret
            exact ⟨by rw [hne2.out]; rfl, hb6⟩
          have hE : LA = LB := by
            rw [beq_iff_eq] at h1 h2 h3 h4 h5
            obtain ⟨x1, x2, x3, x4, x5⟩ := LA
            obtain ⟨y1, y2, y3, y4, y5⟩ := LB
            dsimp only at h1 h2 h3 h4 h5
            rw [h1, h2, h3, h4, h5]
          have HI := Lib.hid (HST.out hE)
          clear hE
          have hsn : Hid ((((S ++ [e.2]).length : Nat) : Int) = (S.length : Int) + 1) := by (show _ = _); simp
          have hsb : (S.length : Int) + 1 ≤ 1000000 := by have := HL.out; omega
          go_wp2
          go_roundw
          case rel => exact ⟨S ++ [e.2], T ++ [f.2], (moreN la S e).reverse ++ r, (moreN lb T f).reverse ++ s, ra', rb', by rw [hsn.out], hb6, HI.out, HSA6.out, HSB6.out, HD6.out⟩
          case measure => simp [intOf]; omega
end Go.Proofs.Ytpeghnhaekebdaa
