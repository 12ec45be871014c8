import Derived.Test.YtolbhjjcabiabaaGreatDoorQMPure20d
import Derived.Test.YtolbhjjcabiabaaGreatDoorQMWalkU20
import Derived.Test.YtolbhjjcabiabaaGreatDoorQMOpIn19
import Derived.Deep.LoopGhost
import Derived.Deep.Cut
import Derived.Deep.CutRange
set_option linter.unusedVariables false
set_option linter.unusedSimpArgs false
/- Walks: the document's Read of a line. -/
set_option linter.unusedVariables false
set_option linter.unusedSimpArgs false
namespace Go.Proofs.YtolbhjjcabiabaaGreatDoor
open Go.RowKit

def zeroO : OpV := ⟨0, 0, [], [], []⟩
theorem mem_join_len : ∀ {P : List (List UInt8)} {x : List UInt8}, x ∈ P → x.length ≤ (joinQ P).length
  | [y], x, h => by rw [List.mem_singleton.1 h]; simp [joinQ]
  | y :: z :: t, x, h => by
    have ih := fun h => mem_join_len (P := z :: t) (x := x) h
    rcases List.mem_cons.1 h with rfl | h
    · simp [joinQ]
    · have := ih h
      simp only [joinQ, List.length_append, List.length_cons] at this ⊢
      omega
theorem word_len {s : List UInt8} {l : List (List UInt8)} (h : splitB s = some l) : ∀ x ∈ l, x.length ≤ s.length := fun x hx => by
  have := mem_join_len hx
  rwa [join_split h] at this
theorem forms_ge (x : List UInt8) : x.length ≤ (formsB x).length := by
  induction x with
  | nil => simp
  | cons c t ih =>
    have := formB_pos c
    simp only [formsB, List.flatMap_cons, List.length_append, List.length_cons] at ih ⊢
    omega
theorem unq_len (x : List UInt8) : (unqB x).length ≤ x.length := by
  unfold unqB
  cases h : unquoteB x with
  | none => simp
  | some y =>
    have e := unquoteB_some h
    have h2 := forms_ge y
    have h3 : (quoteB y).length = (formsB y).length + 2 := by simp [quoteB]
    rw [e] at h3
    simp
    omega
theorem num_bounds (s : List UInt8) : -1 ≤ numB20 s ∧ numB20 s ≤ 1073741824 := by
  unfold numB20
  split
  · split <;> omega
  · omega
theorem own_sl20 {w : World} {base : Nat} {e : TypeId} {size : Nat} {v : Value} {n : Nat} {xs : List Value} (h : w.ownsRow base e size v n xs) : ∃ a c, v = .slice a n c := by
  rcases h.2 with ⟨rfl, rfl⟩ | ⟨g, cap, cur, rfl, _⟩
  · exact ⟨_, _, rfl⟩
  · exact ⟨_, _, rfl⟩
theorem Blk.putFive {W : World} {B : Nat} {t : TypeId} {a b c d e : Value} (h : Blk W B t #[a, b, c, d, e]) (p q r s u : Value) :
    ∃ W', ((((W.setCell ⟨B, 0, none⟩ p).setCell ⟨B, 1, none⟩ q).setCell ⟨B, 2, none⟩ r).setCell ⟨B, 3, none⟩ s).setCell ⟨B, 4, none⟩ u = W' ∧ Blk W' B t #[p, q, r, s, u] ∧ W.grownBy W' (some B) := by
  refine ⟨_, rfl, ?_, ?_⟩
  · exact ((((h.set 0 p).set 1 q).set 2 r).set 3 s).set 4 u
  · exact ((((grownBy_set W B 0 p).trans (grownBy_set _ B 1 q)).trans (grownBy_set _ B 2 r)).trans (grownBy_set _ B 3 s)).trans (grownBy_set _ B 4 u)
theorem Blk.putOne {W : World} {B : Nat} {t : TypeId} {cs : Array Value} (h : Blk W B t cs) (i : Nat) (p : Value) : ∃ W', W.setCell ⟨B, i, none⟩ p = W' ∧ Blk W' B t (cs.setIfInBounds i p) ∧ W.grownBy W' (some B) := ⟨_, rfl, h.set i p, grownBy_set W B i p⟩
theorem grown_below20 {n : Nat} {w0 W W' : World} {B : Nat} (h : Below n w0 W) (hg : W.grownBy W' (some B)) (hn : n ≤ w0.heap.size) (hB : n ≤ B) : Below n w0 W' := h.grown hg (Nat.le_trans hn h.size) (fun k hk => by cases hk; exact hB)
theorem read_nosplit {s : List UInt8} (h : splitB s = none) : readO s = none := by unfold readO; rw [h]
theorem read_nolen {s : List UInt8} {l : List (List UInt8)} (h : splitB s = some l) (h2 : l.length < 2 ∨ 4 < l.length) : readO s = none := by unfold readO; rw [h]; exact if_pos h2
theorem read_notry {s : List UInt8} {l : List (List UInt8)} (h : splitB s = some l) (h2 : ∀ j : Nat, 1 ≤ j → j < 11 → tryO s l (j : Int) = none) : readO s = none := by
  unfold readO
  rw [h]
  dsimp only
  split
  · rfl
  · rw [List.findSome?_eq_none_iff]
    intro k hk
    have : k = ((1 : Nat) : Int) ∨ k = ((2 : Nat) : Int) ∨ k = ((3 : Nat) : Int) ∨ k = ((4 : Nat) : Int) ∨ k = ((5 : Nat) : Int) ∨ k = ((6 : Nat) : Int) ∨ k = ((7 : Nat) : Int) ∨ k = ((8 : Nat) : Int) ∨ k = ((9 : Nat) : Int) ∨ k = ((10 : Nat) : Int) := by
      unfold kindsO at hk
      simpa using hk
    rcases this with rfl | rfl | rfl | rfl | rfl | rfl | rfl | rfl | rfl | rfl <;> exact h2 _ (by decide) (by decide)
theorem infoSD20 : (Tryz.prog.info? 9).map (fun i => (i.zero, i.size, i.bytes)) = some (some (.string ByteArray.empty), 1, 16) := by kernel_rfl

set_option maxHeartbeats 8000000 in
set_option maxRecDepth 100000 in
theorem refRead20_any (s : List UInt8) (w : World) (hs : s.length ≤ 100000) :
    Calls Tryz.prog 11 #[.string ⟨s.toArray⟩] w fun e w' => e = .returned (.tuple #[.agg (opC ((readO s).getD zeroO)), .bool (readO s).isSome]) ∧ Below w.heap.size w w' := by
  have bR := Blk.new w 23 (opC zeroO)
  have hB : Below w.heap.size w (w.alloc (.cells (opC zeroO) 23)) := (Below.refl _ w).alloc (Nat.le_refl _) _
  obtain ⟨is, hsi, hs0, hs1, hs2⟩ := info_parts infoSD20
  have HS := Lib.hid hs
  clear hs
  go_enter Tryz.func11, Tryz.ntmps11
  go_wp2_with fail
  refine (refSplit_any s _ HS.out).mono ?_
  rintro e w1 ⟨v1, rfl, own1, b1⟩
  replace bR := bR.next b1
  replace hB := hB.trans (b1.mono hB.size)
  obtain ⟨a1, c1, rfl⟩ := own_sl20 own1
  have hBR : w.heap.size < w1.heap.size := bR.lt
  cases hsp : splitB s with
  | none =>
    have HN := Lib.hid (read_nosplit hsp)
    rw [hsp] at own1
    (obtain ⟨r0, r1, r2, r3, r4⟩ := bR.five; have e0 := bR.frozen 0; have e1 := bR.frozen 1; have e2 := bR.frozen 2; have e3 := bR.frozen 3; have e4 := bR.frozen 4; dsimp only [zeroO] at r0 r1 r2 r3 r4; obtain ⟨W', hW', hb5, hg5⟩ := bR.putFive (.int .i64 0) (.int .i64 0) (.string ⟨#[]⟩) (.string ⟨#[]⟩) (.string ⟨#[]⟩); have hbl := grown_below20 hB hg5 (Nat.le_refl _) (Nat.le_refl _); go_wp2; obtain ⟨y0, y1, y2, y3, y4⟩ := hb5.five; refine bodyPost_ret (v := .tuple #[.agg (opC zeroO), .bool false]) (by simp [results, Tryz.f11, go_sem, y0, y1, y2, y3, y4, zeroO]) rfl ?_; exact ⟨by rw [HN.out]; rfl, hbl⟩)
  | some l =>
    rw [hsp] at own1
    have hwl := word_len hsp
    have HWL := Lib.hid (fun x hx => Nat.le_trans (hwl x hx) HS.out)
    have HSP := Lib.hid hsp
    clear hwl hsp
    dsimp only [Option.getD_some, Option.isSome_some] at own1 ⊢
    by_cases h2 : l.length < 2
    · have HN := Lib.hid (read_nolen HSP.out (.inl h2))
      have h2i : (l.length : Int) < 2 := by omega
      (obtain ⟨r0, r1, r2, r3, r4⟩ := bR.five; have e0 := bR.frozen 0; have e1 := bR.frozen 1; have e2 := bR.frozen 2; have e3 := bR.frozen 3; have e4 := bR.frozen 4; dsimp only [zeroO] at r0 r1 r2 r3 r4; obtain ⟨W', hW', hb5, hg5⟩ := bR.putFive (.int .i64 0) (.int .i64 0) (.string ⟨#[]⟩) (.string ⟨#[]⟩) (.string ⟨#[]⟩); have hbl := grown_below20 hB hg5 (Nat.le_refl _) (Nat.le_refl _); go_wp2; obtain ⟨y0, y1, y2, y3, y4⟩ := hb5.five; refine bodyPost_ret (v := .tuple #[.agg (opC zeroO), .bool false]) (by simp [results, Tryz.f11, go_sem, y0, y1, y2, y3, y4, zeroO]) rfl ?_; exact ⟨by rw [HN.out]; rfl, hbl⟩)
    have h2i : ¬ (l.length : Int) < 2 := by omega
    by_cases h4 : 4 < l.length
    · have HN := Lib.hid (read_nolen HSP.out (.inr h4))
      have h4i : (4 : Int) < (l.length : Int) := by omega
      (obtain ⟨r0, r1, r2, r3, r4⟩ := bR.five; have e0 := bR.frozen 0; have e1 := bR.frozen 1; have e2 := bR.frozen 2; have e3 := bR.frozen 3; have e4 := bR.frozen 4; dsimp only [zeroO] at r0 r1 r2 r3 r4; obtain ⟨W', hW', hb5, hg5⟩ := bR.putFive (.int .i64 0) (.int .i64 0) (.string ⟨#[]⟩) (.string ⟨#[]⟩) (.string ⟨#[]⟩); have hbl := grown_below20 hB hg5 (Nat.le_refl _) (Nat.le_refl _); go_wp2; obtain ⟨y0, y1, y2, y3, y4⟩ := hb5.five; refine bodyPost_ret (v := .tuple #[.agg (opC zeroO), .bool false]) (by simp [results, Tryz.f11, go_sem, y0, y1, y2, y3, y4, zeroO]) rfl ?_; exact ⟨by rw [HN.out]; rfl, hbl⟩)
    have h4i : ¬ (4 : Int) < (l.length : Int) := by omega
    have HSL := Lib.hid (own_strs own1)
    have HL2 := Lib.hid h2
    have HL4 := Lib.hid h4
    clear own1 b1
    go_wp2
    clear h2i h4i h2 h4
    go_loopw [6, 7] (fun s6 s7 wr => ∃ k : Nat, k ≤ l.length ∧ s7 = .int .i64 k ∧ Aside (wr.ownsRow w1.heap.size 9 1 s6 k (strsV ((l.map unqB).take k))) ∧ Below w1.heap.size w1 wr) (fun _ s7 _ => l.length - (intOf s7).toNat)
    case atStart => exact ⟨0, Nat.zero_le _, rfl, World.ownsRow_nil _ _ _ _, Below.refl _ _⟩
    case round =>
      obtain ⟨k, hk, rfl, HO, hbr⟩ := hrel
      by_cases hlt : k < l.length
      · obtain ⟨aa, ca, e, _, hcl⟩ := HSL.out
        cases e
        obtain ⟨b, o, rfl, hb, hc⟩ := hcl (by omega)
        have c0 := (hbr.cell (p := ⟨b, o + k, none⟩) hb).trans (hc k hlt)
        have hkl := HWL.out l[k] (List.getElem_mem hlt)
        have HTK : Hid ((l.map unqB).take (k + 1) = (l.map unqB).take k ++ [unqB l[k]]) := Lib.hid (by rw [List.take_succ_eq_append_getElem (by rw [List.length_map]; exact hlt), List.getElem_map])
        have hul := unq_len l[k]
        have k0 : (0 : Int) ≤ (k : Int) := by omega
        have k1 : (k : Int) < (l.length : Int) := by omega
        clear hc hcl
        have hU := fun W => refUnquote_any l[k] W (by omega)
        unfold unqV at hU
        rw [show (unquoteB l[k]).getD [] = unqB l[k] from rfl] at hU
        generalize l[k] = y at *
        generalize unqB y = u at *
        go_wp2_with fail
        refine (hU _).mono ?_
        rintro e w2 ⟨rfl, b2⟩
        have hO2 := own_keep HO.out b2
        have hk4 : k ≤ 4 := by have := HL4.out; omega
        have hb2 := hbr.trans (b2.mono hbr.size)
        go_wp2_with (at_builtin; refine wpList_append_new rfl (.tmp 45) (.tmp 47) 49 9 rfl Tryz.underlying49 hsi hs0 hs1 hs2 rfl (by decide) (by decide) w1.heap.size #[.string ⟨u.toArray⟩] 1 rfl rfl hO2 rfl (by simp [Value.oneCell']) (by omega) hb2.size ?_; intro v3 w3 hown3 hb3)
        go_roundw
        case rel => exact ⟨k + 1, hlt, by go_num, by rw [HTK.out]; exact (show w3.ownsRow w1.heap.size 9 1 v3 (k + 1) (strsV ((l.map unqB).take k ++ [u])) from by simpa [strsV] using hown3), hb2.trans hb3⟩
        case measure => simp [intOf]; omega
      · obtain rfl : k = l.length := by omega
        have hOT := HO.out
        rw [List.take_of_length_le (by simp)] at hOT
        have hOT2 : wr.ownsRow w1.heap.size 9 1 u6 (l.map unqB).length (strsV (l.map unqB)) := by rw [List.length_map]; exact hOT
        obtain ⟨a6, c6, rfl⟩ := own_sl20 hOT2
        rw [List.length_map] at *
        have HST := Lib.hid (own_strs hOT2)
        have hL2 := HL2.out
        obtain ⟨ax, cx, e, _, hcl⟩ := HSL.out.below hbr
        cases e
        obtain ⟨b, o, rfl, hbl, hc⟩ := hcl (by omega)
        have HC := Lib.hid hc
        obtain ⟨ax6, cx6, e6, _, hcl6⟩ := HST.out
        have hcl7 := hcl6 (by rw [List.length_map]; omega)
        rw [List.length_map] at e6
        cases e6
        obtain ⟨b6, o6, rfl, hbl6, hc6⟩ := hcl7
        have HC6 : Hid (∀ (i : Nat) (h : i < l.length), wr.cell? ⟨b6, o6 + i, none⟩ = some (.string ⟨(unqB l[i]).toArray⟩)) := Lib.hid (fun i h => by
          have := hc6 i (by rw [List.length_map]; exact h)
          rw [List.getElem_map] at this
          exact this)
        clear hc hc6 hcl hcl6 HST
        have hB2 := hB.trans (hbr.mono hB.size)
        have bR2 := bR.next hbr
        have BRD := Lib.hid bR2
        clear hOT hOT2 HO bR hB hBR
        obtain ⟨wA, hwA⟩ : ∃ x, x = wr := ⟨_, rfl⟩
        subst hwA
        go_wp2
        go_loopw [10] (fun s10 wq => ∃ k : Nat, 1 ≤ k ∧ k ≤ 11 ∧ s10 = .int .i64 k ∧ Below wA.heap.size wA wq ∧ Aside (∀ j : Nat, 1 ≤ j → j < k → tryO s l (j : Int) = none)) (fun s10 _ => 11 - (intOf s10).toNat)
        case atStart => exact ⟨1, Nat.le_refl _, by omega, rfl, Below.refl _ _, fun j h1 h2 => by omega⟩
        case round =>
          obtain ⟨k, hk1, hk11, rfl, hbq, HT⟩ := hrel
          by_cases hk10 : k ≤ 10
          rotate_left
          · obtain rfl : k = 11 := by omega
            have HN := Lib.hid (read_notry HSP.out HT.out)
            have bR := BRD.out.next hbq
            have hB := hB2.trans (hbq.mono hB2.size)
            (obtain ⟨r0, r1, r2, r3, r4⟩ := bR.five; have e0 := bR.frozen 0; have e1 := bR.frozen 1; have e2 := bR.frozen 2; have e3 := bR.frozen 3; have e4 := bR.frozen 4; dsimp only [zeroO] at r0 r1 r2 r3 r4; obtain ⟨W', hW', hb5, hg5⟩ := bR.putFive (.int .i64 0) (.int .i64 0) (.string ⟨#[]⟩) (.string ⟨#[]⟩) (.string ⟨#[]⟩); have hbl := grown_below20 hB hg5 (Nat.le_refl _) (Nat.le_refl _); go_wp2; obtain ⟨y0, y1, y2, y3, y4⟩ := hb5.five; refine bodyPost_ret (v := .tuple #[.agg (opC zeroO), .bool false]) (by simp [results, Tryz.f11, go_sem, y0, y1, y2, y3, y4, zeroO]) rfl ?_; exact ⟨by rw [HN.out]; rfl, hbl⟩)
          have hk10i : (k : Int) ≤ 10 := by omega
          go_wp2_with fail
          refine (refSlotted_any (k : Int) _).mono ?_
          rintro e w4 ⟨rfl, hwz⟩
          subst hwz
          obtain ⟨z, hz⟩ : ∃ z, z = (if slotK (k : Int) = true then numB20 (l.getD 1 []) else 0) := ⟨_, rfl⟩
          obtain ⟨dd, hdd⟩ : ∃ d, d = (if (k : Int) = 4 then unqB (l.getD 1 []) else []) := ⟨_, rfl⟩
          obtain ⟨aa, haa⟩ : ∃ a, a = (if firstW (k : Int) < l.length then unqB (l.getD (firstW (k : Int)) []) else []) := ⟨_, rfl⟩
          obtain ⟨bb, hbb⟩ : ∃ b, b = (if firstW (k : Int) + 1 < l.length then unqB (l.getD (firstW (k : Int) + 1) []) else []) := ⟨_, rfl⟩
          have HCD : Hid (candO l (k : Int) = ⟨(k : Int), z, aa, bb, dd⟩) := Lib.hid (by rw [hz, hdd, haa, hbb]; rfl)
          have HZ := Lib.hid hz
          have HDD := Lib.hid hdd
          have HAA := Lib.hid haa
          have HBB := Lib.hid hbb
          clear hz hdd haa hbb
          obtain ⟨wB, hwB⟩ : ∃ x, x = wr := ⟨_, rfl⟩
          subst hwB
          have hB4 : Below wB.heap.size wB (wB.alloc (.cells (opC ⟨(k : Int), 0, [], [], []⟩) 23)) := (Below.refl _ wB).alloc (Nat.le_refl _) _
          have bO := Blk.new wB 23 (opC ⟨(k : Int), 0, [], [], []⟩)
          have hbl4 : b < wB.heap.size := Nat.lt_of_lt_of_le hbl hbq.size
          have hbl64 : b6 < wB.heap.size := Nat.lt_of_lt_of_le hbl6 hbq.size
          have HCA := Lib.hid (fun W (h : Below wB.heap.size wB W) (i : Nat) (hi : i < l.length) => ((hbq.trans (h.mono hbq.size)).cell (p := ⟨b, o + i, none⟩) hbl).trans (HC.out i hi))
          have HCB := Lib.hid (fun W (h : Below wB.heap.size wB W) (i : Nat) (hi : i < l.length) => ((hbq.trans (h.mono hbq.size)).cell (p := ⟨b6, o6 + i, none⟩) hbl6).trans (HC6.out i hi))
          have hi1 : (1 : Int) < (l.length : Int) := by omega
          go_upto_if 56 with (fail)
          go_cut [12, 56] from 57 to 96 (fun s12 s56 wc => ∃ m : Nat, s12 = .int .i64 (m : Int) ∧ Below wB.heap.size wB wc ∧ Aside (Blk wc wB.heap.size 23 (opC ⟨(k : Int), z, [], [], []⟩)) ∧ Aside (m = if slotK (k : Int) = true then 2 else 1))
          case first =>
            cases hsk : slotK (k : Int)
            · go_wp2_with fail
              go_meet
              exact ⟨1, rfl, hB4, by rw [HZ.out, hsk]; exact bO, by rw [hsk]; rfl⟩
            · have c1 := HCA.out _ hB4 1 (by omega)
              have hg1 : l.getD 1 [] = l[1]'(by omega) := by rw [List.getD_eq_getElem?_getD, List.getElem?_eq_getElem (by omega)]; rfl
              have hyl := HWL.out (l[1]'(by omega)) (List.getElem_mem _)
              have HZ2 : Hid (z = numB20 (l[1]'(by omega))) := Lib.hid (by rw [HZ.out, hsk, if_pos rfl, hg1])
              generalize l[1]'(by omega) = y at *
              go_wp2_with fail
              refine (refNum_any y _ (by omega)).mono ?_
              rintro e w5 ⟨rfl, b5⟩
              have bO5 := bO.next b5
              have hB5 := hB4.trans (b5.mono hB4.size)
              have e1 := bO5.frozen 1
              have q1 := (bO5.five).2.1
              obtain ⟨W', hW', hb5, hg5⟩ := bO5.putOne 1 (.int .i64 (numB20 y))
              have hbl5 := grown_below20 hB5 hg5 (Nat.le_refl _) (Nat.le_refl _)
              go_wp2_with fail
              go_meet
              exact ⟨2, rfl, hbl5, by rw [HZ2.out]; exact hb5, by rw [hsk]; rfl⟩
          case rest =>
          obtain ⟨m, rfl, hB5, HO5, HM⟩ := hcut
          clear hB4 bO
          go_upto_if 63 with (fail)
          go_cut [12, 63] from 64 to 96 (fun s12 s63 wc => s12 = .int .i64 (firstW (k : Int) : Nat) ∧ Below wB.heap.size wB wc ∧ Aside (Blk wc wB.heap.size 23 (opC ⟨(k : Int), z, [], [], dd⟩)))
          case first =>
            cases h4 : ((k : Int) == 4)
            · have h4n : ¬ (k : Int) = 4 := by simpa using h4
              have HD2 : Hid (dd = []) := Lib.hid (by rw [HDD.out, if_neg h4n])
              have HF2 : Hid (m = firstW (k : Int)) := Lib.hid (by rw [HM.out]; unfold firstW; simp only [h4n, or_false])
              clear h4n
              go_wp2_with fail
              go_meet
              exact ⟨by rw [HF2.out], hB5, by rw [HD2.out]; exact HO5.out⟩
            · have h4n : (k : Int) = 4 := by simpa using h4
              have c1 := HCB.out _ hB5 1 (by omega)
              have hg1 : l.getD 1 [] = l[1]'(by omega) := by rw [List.getD_eq_getElem?_getD, List.getElem?_eq_getElem (by omega)]; rfl
              have HD2 : Hid (dd = unqB (l[1]'(by omega))) := Lib.hid (by rw [HDD.out, if_pos h4n, hg1])
              have HF2 : Hid (firstW (k : Int) = 2) := Lib.hid (by unfold firstW; rw [if_pos (.inr h4n)])
              generalize unqB (l[1]'(by omega)) = y at *
              have e1 := HO5.out.frozen 4
              have q1 := (HO5.out.five).2.2.2.2
              obtain ⟨W', hW', hb5, hg5⟩ := HO5.out.putOne 4 (.string ⟨y.toArray⟩)
              have hbl5 := grown_below20 hB5 hg5 (Nat.le_refl _) (Nat.le_refl _)
              clear h4n
              go_wp2_with fail
              go_meet
              exact ⟨by rw [HF2.out]; rfl, hbl5, by rw [HD2.out]; exact hb5⟩
          case rest =>
          obtain ⟨rfl, hB6, HO6⟩ := hcut
          clear hB5 HO5
          have hf12 : 1 ≤ firstW (k : Int) ∧ firstW (k : Int) ≤ 2 := by unfold firstW; split <;> omega
          generalize firstW (k : Int) = fw at *
          have hg0 : ∀ j (h : j < l.length), l.getD j [] = l[j] := fun j h => by rw [List.getD_eq_getElem?_getD, List.getElem?_eq_getElem h]; rfl
          have HG0 := Lib.hid hg0
          clear hg0
          go_upto_if 71 with (fail)
          go_cut [71] from 72 to 96 (fun s71 wc => Below wB.heap.size wB wc ∧ Aside (Blk wc wB.heap.size 23 (opC ⟨(k : Int), z, aa, [], dd⟩)))
          case first =>
            by_cases hfl : fw < l.length
            · have hfi : (fw : Int) < (l.length : Int) := by omega
              have c1 := HCB.out _ hB6 fw hfl
              have HA2 : Hid (aa = unqB (l[fw]'hfl)) := Lib.hid (by rw [HAA.out, if_pos hfl, HG0.out fw hfl])
              generalize unqB (l[fw]'hfl) = y at *
              have e1 := HO6.out.frozen 2
              have q1 := (HO6.out.five).2.2.1
              obtain ⟨W', hW', hb5, hg5⟩ := HO6.out.putOne 2 (.string ⟨y.toArray⟩)
              have hbl5 := grown_below20 hB6 hg5 (Nat.le_refl _) (Nat.le_refl _)
              have hf0 : (0 : Int) ≤ (fw : Int) := by omega
              go_wp2_with fail
              go_meet
              exact ⟨hbl5, by rw [HA2.out]; exact hb5⟩
            · have hfi : ¬ (fw : Int) < (l.length : Int) := by omega
              have HA2 : Hid (aa = []) := Lib.hid (by rw [HAA.out, if_neg hfl])
              go_wp2_with fail
              go_meet
              exact ⟨hB6, by rw [HA2.out]; exact HO6.out⟩
          case rest =>
          obtain ⟨hB7, HO7⟩ := hcut
          clear hB6 HO6
          have hw1 : IntKind.i64.wrap ((fw : Int) + 1) = (fw : Int) + 1 := by rw [IntKind.wrap_i64]; omega
          go_upto_if 81 with (fail)
          go_cut [81] from 82 to 96 (fun s81 wc => Below wB.heap.size wB wc ∧ Aside (Blk wc wB.heap.size 23 (opC ⟨(k : Int), z, aa, bb, dd⟩)))
          case first =>
            by_cases hfl : fw + 1 < l.length
            · have hfi : (fw : Int) + 1 < (l.length : Int) := by omega
              have c1 := HCB.out _ hB7 (fw + 1) hfl
              have HA2 : Hid (bb = unqB (l[fw + 1]'hfl)) := Lib.hid (by rw [HBB.out, if_pos hfl, HG0.out (fw + 1) hfl])
              generalize unqB (l[fw + 1]'hfl) = y at *
              have e1 := HO7.out.frozen 3
              have q1 := (HO7.out.five).2.2.2.1
              obtain ⟨W', hW', hb5, hg5⟩ := HO7.out.putOne 3 (.string ⟨y.toArray⟩)
              have hbl5 := grown_below20 hB7 hg5 (Nat.le_refl _) (Nat.le_refl _)
              have hf0 : (0 : Int) ≤ (fw : Int) + 1 := by omega
              go_wp2_with fail
              go_meet
              exact ⟨hbl5, by rw [HA2.out]; exact hb5⟩
            · have hfi : ¬ (fw : Int) + 1 < (l.length : Int) := by omega
              have HA2 : Hid (bb = []) := Lib.hid (by rw [HBB.out, if_neg hfl])
              go_wp2_with fail
              go_meet
              exact ⟨hB7, by rw [HA2.out]; exact HO7.out⟩
          case rest =>
          obtain ⟨hB8, HO8⟩ := hcut
          clear hB7 HO7
          have hlu : ∀ j, (unqB (l.getD j [])).length ≤ 100000 := fun j => by
            by_cases hj : j < l.length
            · rw [HG0.out j hj]
              exact Nat.le_trans (unq_len _) (HWL.out _ (List.getElem_mem hj))
            · rw [List.getD_eq_getElem?_getD, List.getElem?_eq_none (by omega)]
              exact Nat.le_trans (unq_len []) (by decide)
          have hal : aa.length ≤ 100000 := by rw [HAA.out]; split; exact hlu _; simp
          have hbl9 : bb.length ≤ 100000 := by rw [HBB.out]; split; exact hlu _; simp
          have hdl : dd.length ≤ 100000 := by rw [HDD.out]; split; exact hlu _; simp
          have hzl : z ≤ 1099511627776 := by
            rw [HZ.out]
            split
            · have := num_bounds (l.getD 1 []); omega
            · decide
          have hMy := fun W => refMayO_any ⟨(k : Int), z, aa, bb, dd⟩ W hal hbl9 hdl
          have hLn := fun W h0 => refLine_any ⟨(k : Int), z, aa, bb, dd⟩ W hal hbl9 hdl h0 hzl
          dsimp only at hLn
          have hmz : mayO ⟨(k : Int), z, aa, bb, dd⟩ = true → 0 ≤ z := fun h => by
            obtain ⟨m1, m2, _, _⟩ := may_none h
            dsimp only at m1 m2
            cases hk : slotK (k : Int)
            · rw [m1 hk]; exact Int.le_refl _
            · have := (m2 hk).1; omega
          have hTr : tryO s l (k : Int) = if (mayO ⟨(k : Int), z, aa, bb, dd⟩ && decide (lineO ⟨(k : Int), z, aa, bb, dd⟩ = s)) = true then some ⟨(k : Int), z, aa, bb, dd⟩ else none := by unfold tryO; rw [HCD.out]
          have HTR := Lib.hid hTr
          clear hTr hlu hal hbl9 hdl hzl
          have HRI := Lib.hid (read_iff s ⟨(k : Int), z, aa, bb, dd⟩)
          have HNX : tryO s l (k : Int) = none → Hid (∀ j : Nat, 1 ≤ j → j < k + 1 → tryO s l (j : Int) = none) := fun h => Lib.hid (fun j h1 h2 => by
            rcases Nat.lt_or_ge j k with h' | h'
            · exact HT.out j h1 h'
            · obtain rfl : j = k := by omega
              exact h)
          have hB9 := hbq.trans (hB8.mono hbq.size)
          have hBw := hB2.trans (hB9.mono hB2.size)
          have bR9 := BRD.out.next hB9
          clear HSL HC HC6 hbl hbl6 hf12 hw1 hi1
          obtain ⟨p0, p1, p2, p3, p4⟩ := HO8.out.five
          generalize hmO : mayO ⟨(k : Int), z, aa, bb, dd⟩ = mo at *
          generalize lineO ⟨(k : Int), z, aa, bb, dd⟩ = ln at *
          go_wp2_with fail
          refine (hMy _).mono ?_
          rintro e w6 ⟨rfl, b6⟩
          have bO9 := HO8.out.next b6
          have hB10 := hB8.trans (b6.mono hB8.size)
          have hB11 := hB9.trans (b6.mono hB9.size)
          have bR10 := bR9.next b6
          clear p0 p1 p2 p3 p4
          obtain ⟨p0, p1, p2, p3, p4⟩ := bO9.five
          cases mo
          · have HNX2 := HNX (by rw [HTR.out]; simp)
            clear HNX HTR hmO
            go_wp2
            go_roundw
            case rel => exact ⟨k + 1, by omega, by omega, by go_num, hB11, HNX2.out⟩
            case measure => simp [intOf]; omega
          · have hz0 := hmz rfl
            go_wp2_with fail
            refine (hLn _ hz0).mono ?_
            rintro e w7 ⟨rfl, b7⟩
            have bO10 := bO9.next b7
            have hB12 := hB11.trans (b7.mono hB11.size)
            have bR11 := bR10.next b7
            have hBw2 := hB2.trans (hB12.mono hB2.size)
            clear p0 p1 p2 p3 p4
            obtain ⟨p0, p1, p2, p3, p4⟩ := bO10.five
            cases heq : (ln == s)
            · have HNX2 := HNX (by rw [HTR.out, if_neg (by simpa using heq)])
              clear HNX HTR hmO
              go_wp2
              go_roundw
              case rel => exact ⟨k + 1, by omega, by omega, by go_num, hB12, HNX2.out⟩
              case measure => simp [intOf]; omega
            · have HN : Hid (readO s = some ⟨(k : Int), z, aa, bb, dd⟩) := Lib.hid (HRI.out.2 ⟨by simp, by simpa using heq⟩)
              clear HNX HTR hmO
              obtain ⟨r0, r1, r2, r3, r4⟩ := bR11.five
              have e0 := bR11.frozen 0
              have e1 := bR11.frozen 1
              have e2 := bR11.frozen 2
              have e3 := bR11.frozen 3
              have e4 := bR11.frozen 4
              obtain ⟨W', hW', hb5, hg5⟩ := bR11.putFive (.int .i64 (k : Int)) (.int .i64 z) (.string ⟨aa.toArray⟩) (.string ⟨bb.toArray⟩) (.string ⟨dd.toArray⟩)
              have hbl := grown_below20 hBw2 hg5 (Nat.le_refl _) (Nat.le_refl _)
              go_wp2
              obtain ⟨y0, y1, y2, y3, y4⟩ := hb5.five
              refine bodyPost_ret (v := .tuple #[.agg (opC ⟨(k : Int), z, aa, bb, dd⟩), .bool true]) (by simp [results, Tryz.f11, go_sem, y0, y1, y2, y3, y4]) rfl ?_
              exact ⟨by rw [HN.out]; rfl, hbl⟩
end Go.Proofs.YtolbhjjcabiabaaGreatDoor
