/- For every table of few inodes, and every small number: package room counts no byte of what is no file's Data, whatever is added to it (no condition). -/
import Derived.Test.YtghncegngmeleaaLawA06
import Derived.StillTailTactics
namespace Go.Proofs.Ytghncegngmeleaa
open Go.ChangeShapes Go.WideShapes Go.ChangeAt Go.RowKit
open Go.ChangeMaps (open_string shut_string)
set_option linter.unusedVariables false

def addN (odd : Bool) (x : Nd) : Nd := ⟨x.ino, if odd then 2 else x.kind, x.links, if x.kind = 1 then x.data else x.data ++ [109, 111, 114, 101], x.parent, x.ev, x.ents⟩
def addL (odd : Bool) (l : List Nd) (k : Nat) : List Nd := (l.take k).map (addN odd) ++ l.drop k
def addS (odd : Bool) (l : List Nd) (k : Nat) : Nat := if odd then 0 else bytesN (l.take k)
theorem addL_zero (odd : Bool) (l : List Nd) : addL odd l 0 = l := by simp [addL]
theorem addL_len (odd : Bool) (l : List Nd) (k : Nat) : (addL odd l k).length = l.length := by simp [addL]; omega
theorem addL_at (odd : Bool) {l : List Nd} {k : Nat} (h : k < l.length) : (addL odd l k)[k]'(by rw [addL_len]; exact h) = l[k] := by
  unfold addL
  rw [List.getElem_append_right (by simp; omega)]
  simp [Nat.min_eq_left (Nat.le_of_lt h)]
theorem addL_next (odd : Bool) {l : List Nd} {k : Nat} (h : k < l.length) : (addL odd l k).set k (addN odd l[k]) = addL odd l (k + 1) := by
  unfold addL
  rw [List.set_append_right _ _ (by simp; omega), List.length_map, List.length_take, Nat.min_eq_left (Nat.le_of_lt h), Nat.sub_self, List.drop_eq_getElem_cons h, List.set_cons_zero, List.take_succ_eq_append_getElem h, List.map_append, List.append_assoc]
  rfl
theorem addL_end (odd : Bool) (l : List Nd) : addL odd l l.length = l.map (addN odd) := by simp [addL]
theorem add_bytes (odd : Bool) (l : List Nd) : bytesN (l.map (addN odd)) = if odd then 0 else bytesN l := by
  induction l with
  | nil => cases odd <;> rfl
  | cons x r ih =>
    simp only [List.map_cons, bytesN, ih]
    cases odd
    · simp only [addN, costN]
      by_cases h : x.kind = 1 <;> simp [h]
    · simp [addN, costN]
theorem add_all {w : World} {odd : Bool} {l : List Nd} (h : EntsAll w l) : EntsAll w (l.map (addN odd)) := by
  intro y hy
  obtain ⟨x, hx, rfl⟩ := List.mem_map.1 hy
  exact h x hx
theorem ndsV_set3 (L : List Nd) : ∀ (k : Nat) (h : k < L.length) (d : List UInt8), (ndsV L).set (k * 6 + 3) (.string ⟨d.toArray⟩) = ndsV (L.set k ⟨L[k].ino, L[k].kind, L[k].links, d, L[k].parent, L[k].ev, L[k].ents⟩) := by
  induction L with
  | nil => intro k h; simp at h
  | cons x r ih =>
    intro k h d
    cases k with
    | zero => simp [ndsV]
    | succ k =>
      have := ih k (by simpa using h) d
      rw [show (k + 1) * 6 + 3 = k * 6 + 3 + 1 + 1 + 1 + 1 + 1 + 1 from by omega]
      simp only [ndsV, List.set_cons_succ, List.getElem_cons_succ, this]
theorem ndsV_set1 (L : List Nd) : ∀ (k : Nat) (h : k < L.length) (z : Int), (ndsV L).set (k * 6 + 1) (.int .i64 z) = ndsV (L.set k ⟨L[k].ino, z, L[k].links, L[k].data, L[k].parent, L[k].ev, L[k].ents⟩) := by
  induction L with
  | nil => intro k h; simp at h
  | cons x r ih =>
    intro k h z
    cases k with
    | zero => simp [ndsV]
    | succ k =>
      have := ih k (by simpa using h) z
      rw [show (k + 1) * 6 + 1 = k * 6 + 1 + 1 + 1 + 1 + 1 + 1 + 1 from by omega]
      simp only [ndsV, List.set_cons_succ, List.getElem_cons_succ, this]
theorem own_at2 {w : World} {base : Nat} {e : TypeId} {g cap n : Nat} {L : List Nd} (h : w.ownsRow base e 6 (.slice (some ⟨g, 0, none⟩) n cap) n (ndsV L)) (hn : n = L.length) {k : Nat} (hk : k < L.length) : NdAt w g (k * 6) L[k] := by
  subst hn
  exact own_at h hk

/-- A row in which each inode's ways through the round are kept: its Data, or its kind, set. -/
theorem own_data {w : World} {base : Nat} {e : TypeId} {g cap n : Nat} {L : List Nd} (h : w.ownsRow base e 6 (.slice (some ⟨g, 0, none⟩) n cap) n (ndsV L)) {k : Nat} (hk : k < L.length) (d : List UInt8) :
    (w.setCell ⟨g, k * 6 + 3, none⟩ (.string ⟨d.toArray⟩)).ownsRow base e 6 (.slice (some ⟨g, 0, none⟩) n cap) n (ndsV (L.set k ⟨L[k].ino, L[k].kind, L[k].links, d, L[k].parent, L[k].ev, L[k].ents⟩)) := by
  rw [← ndsV_set3 L k hk d]; exact (h.stored _ _).1
theorem own_kind {w : World} {base : Nat} {e : TypeId} {g cap n : Nat} {L : List Nd} (h : w.ownsRow base e 6 (.slice (some ⟨g, 0, none⟩) n cap) n (ndsV L)) {k : Nat} (hk : k < L.length) (z : Int) :
    (w.setCell ⟨g, k * 6 + 1, none⟩ (.int .i64 z)).ownsRow base e 6 (.slice (some ⟨g, 0, none⟩) n cap) n (ndsV (L.set k ⟨L[k].ino, z, L[k].links, L[k].data, L[k].parent, L[k].ev, L[k].ents⟩)) := by
  rw [← ndsV_set1 L k hk z]; exact (h.stored _ _).1
theorem cat4 (a : List UInt8) : ByteArray.mk a.toArray ++ ByteArray.mk #[109, 111, 114, 101] = ⟨(a ++ [109, 111, 114, 101]).toArray⟩ := by apply ByteArray.ext; simp [ByteArray.data_append]
section
variable {w : World} {base : Nat} {e : TypeId} {g cap : Nat} {l : List Nd} {k : Nat}
theorem rowA (h : w.ownsRow base e 6 (.slice (some ⟨g, 0, none⟩) l.length cap) l.length (ndsV (addL false l k))) (hk : k < l.length) (hy : l[k].kind = 1) :
    w.ownsRow base e 6 (.slice (some ⟨g, 0, none⟩) l.length cap) l.length (ndsV (addL false l (k + 1))) := by
  have e0 : ∀ y : Nd, y.kind = 1 → addN false y = y := by
    rintro ⟨_, _, _, _, _, _, _⟩ h
    dsimp only at h
    subst h
    rfl
  have e1 := e0 _ hy
  have e2 : (addL false l k).set k l[k] = addL false l k := by
    rw [← addL_at false hk]; exact List.set_getElem_self _
  rw [← addL_next false hk, e1, e2]; exact h
theorem rowB (h : w.ownsRow base e 6 (.slice (some ⟨g, 0, none⟩) l.length cap) l.length (ndsV (addL true l k))) (hk : k < l.length) (hy : l[k].kind = 1) :
    (w.setCell ⟨g, k * 6 + 1, none⟩ (.int .i64 2)).ownsRow base e 6 (.slice (some ⟨g, 0, none⟩) l.length cap) l.length (ndsV (addL true l (k + 1))) := by
  have h2 := own_kind h (k := k) (by rw [addL_len]; exact hk) 2
  rw [addL_at true hk] at h2
  rw [← addL_next true hk, show addN true l[k] = ⟨l[k].ino, 2, l[k].links, l[k].data, l[k].parent, l[k].ev, l[k].ents⟩ from by simp [addN, hy]]
  exact h2
theorem rowC (h : w.ownsRow base e 6 (.slice (some ⟨g, 0, none⟩) l.length cap) l.length (ndsV (addL false l k))) (hk : k < l.length) (hy : ¬ l[k].kind = 1) :
    (w.setCell ⟨g, k * 6 + 3, none⟩ (.string ⟨(l[k].data ++ [109, 111, 114, 101]).toArray⟩)).ownsRow base e 6 (.slice (some ⟨g, 0, none⟩) l.length cap) l.length (ndsV (addL false l (k + 1))) := by
  have h2 := own_data h (k := k) (by rw [addL_len]; exact hk) (l[k].data ++ [109, 111, 114, 101])
  rw [addL_at false hk] at h2
  rw [← addL_next false hk, show addN false l[k] = ⟨l[k].ino, l[k].kind, l[k].links, l[k].data ++ [109, 111, 114, 101], l[k].parent, l[k].ev, l[k].ents⟩ from by simp [addN, hy]]
  exact h2
theorem rowD (h : w.ownsRow base e 6 (.slice (some ⟨g, 0, none⟩) l.length cap) l.length (ndsV (addL true l k))) (hk : k < l.length) (hy : ¬ l[k].kind = 1) :
    ((w.setCell ⟨g, k * 6 + 3, none⟩ (.string ⟨(l[k].data ++ [109, 111, 114, 101]).toArray⟩)).setCell ⟨g, k * 6 + 1, none⟩ (.int .i64 2)).ownsRow base e 6 (.slice (some ⟨g, 0, none⟩) l.length cap) l.length (ndsV (addL true l (k + 1))) := by
  have h2 := own_data h (k := k) (by rw [addL_len]; exact hk) (l[k].data ++ [109, 111, 114, 101])
  have h3 := own_kind h2 (k := k) (by rw [List.length_set, addL_len]; exact hk) 2
  rw [List.set_set] at h3
  simp only [List.getElem_set_self] at h3
  rw [addL_at true hk] at h3
  rw [← addL_next true hk, show addN true l[k] = ⟨l[k].ino, 2, l[k].links, l[k].data ++ [109, 111, 114, 101], l[k].parent, l[k].ev, l[k].ents⟩ from by simp [addN, hy]]
  exact h3
end
theorem row_cells {w : World} {base : Nat} {e : TypeId} {g cap : Nat} {odd : Bool} {l : List Nd} {k : Nat} (h : w.ownsRow base e 6 (.slice (some ⟨g, 0, none⟩) l.length cap) l.length (ndsV (addL odd l k))) (hk : k < l.length) : NdAt w g (k * 6) l[k] := by
  have := own_at2 h (addL_len odd l k).symm (k := k) (by rw [addL_len]; exact hk)
  rwa [addL_at odd hk] at this

theorem row_kind {w : World} {base : Nat} {e : TypeId} {g cap : Nat} {odd : Bool} {l : List Nd} {k : Nat} (h : w.ownsRow base e 6 (.slice (some ⟨g, 0, none⟩) l.length cap) l.length (ndsV (addL odd l k))) (hk : k < l.length) (d : Value) :
    (w.setCell ⟨g, k * 6 + 3, none⟩ d).cell? ⟨g, k * 6 + 1, none⟩ = some (.int .i64 l[k].kind) ∧ (w.setCell ⟨g, k * 6 + 3, none⟩ d).frozen? ⟨g, k * 6 + 1, none⟩ = false := by
  have h2 := h.stored (k * 6 + 3) d
  refine ⟨?_, h2.1.frozenAt _⟩
  rw [h2.1.cellAt (k * 6 + 1) (by omega), List.getElem?_set_ne (by omega)]
  have := (ndsV_at (addL odd l k) k (by rw [addL_len]; exact hk)).2.1
  rwa [addL_at odd hk] at this

set_option maxHeartbeats 8000000 in
set_option maxRecDepth 100000 in
theorem lawFiles (mi mb nx z : Int) (l : List Nd) (v : Value) (w : World) (hv : Nds w v l) (hz : 0 ≤ z ∧ z < 256) :
    Calls Try.prog 5 #[.agg (fsC mi mb nx v), .int .u8 z] w fun e w' => e = .returned (.bool true) ∧ Below w.heap.size w w' := by
  obtain ⟨a, ca, rfl⟩ := nds_slice hv
  have bF := Blk.new w 24 (fsC mi mb nx (.slice a l.length ca))
  have hB := alloc_below w (.cells (fsC mi mb nx (.slice a l.length ca)) 24)
  have nV := hv.below hB
  have HA := Lib.hid hv.all
  clear hv
  cases hf : fewN l
  · go_enter Try.func5, Try.ntmps5
    go_wp2_with fail; refine (awake_any _).mono ?_; rintro e w1 ⟨rfl, b1⟩
    (replace bF := bF.next b1; replace nV := nV.below b1; replace hB := hB.trans (b1.mono hB.size))
    obtain ⟨⟨p0, p1, p2, p3⟩, _⟩ := bF.four
    go_wp2_with fail; refine (fewT_any mi mb nx l _ _ nV).mono ?_; rintro e w2 ⟨rfl, b2⟩
    (replace bF := bF.next b2; replace nV := nV.below b2; replace hB := hB.trans (b2.mono hB.size))
    rw [hf]
    go_wp2_with fail; refine (awake_any _).mono ?_; rintro e w9 ⟨rfl, b9⟩
    go_wp2
    go_ret
    exact ⟨rfl, hB.trans (b9.mono hB.size)⟩
  have hfb := few_bytes hf
  have hl40 := (fewN_small hf).1
  have HD := Lib.hid (fewN_small hf).2
  obtain ⟨i0, hi, hz0, hz1, hz2⟩ := info_parts infoN
  generalize hodd : (z % 2 == 1) = odd
  go_enter Try.func5, Try.ntmps5
  go_wp2_with fail; refine (awake_any _).mono ?_; rintro e w1 ⟨rfl, b1⟩
  (replace bF := bF.next b1; replace nV := nV.below b1; replace hB := hB.trans (b1.mono hB.size))
  obtain ⟨⟨p0, p1, p2, p3⟩, _⟩ := bF.four
  go_wp2_with fail; refine (fewT_any mi mb nx l _ _ nV).mono ?_; rintro e w2 ⟨rfl, b2⟩
  (replace bF := bF.next b2; replace nV := nV.below b2; replace hB := hB.trans (b2.mono hB.size))
  rw [hf]
  clear p0 p1 p2 p3
  obtain ⟨⟨p0, p1, p2, p3⟩, _⟩ := bF.four
  go_upto_region 4 with fail
  clear p0 p1 p2 p3 b1 b2
  have bG := Blk.new w2 24 (fsC mi mb nx (.slice a l.length ca))
  have b3 := alloc_below w2 (.cells (fsC mi mb nx (.slice a l.length ca)) 24)
  have hlt2 := bF.lt
  (replace bF := bF.next b3; replace nV := nV.below b3; replace hB := hB.trans (b3.mono hB.size))
  have hBG := bG.lt
  clear b3
  generalize w2.alloc (.cells (fsC mi mb nx (.slice a l.length ca)) 24) = w3 at *
  generalize w2.heap.size = BG at *
  have own0 : (w3.alloc (.cells #[] 32)).ownsRow w3.heap.size 32 6 (.slice (some ⟨w3.heap.size, 0, none⟩) 0 0) 0 [] := World.ownsRow_lit w3 #[] 0 (Nat.le_refl _) (Nat.zero_le _) rfl
  have b4 := alloc_below w3 (.cells #[] 32)
  have hnone : a = none → l.length = 0 ∧ ca = 0 := by
    intro h
    obtain ⟨a', c', e, h1, _, _, h2, _⟩ := nV
    simp only [Value.slice.injEq] at e
    obtain ⟨rfl, _, rfl⟩ := e
    have := h2 h
    omega
  have HN := Lib.hid hnone
  have HS := Lib.hid (nV.below b4)
  have hB4 := hB.trans (b4.mono hB.size)
  have bF4 := bF.next b4
  have bG4 := bG.next b4
  have hsz4 := b4.size
  have p3 := bF4.four.1.2.2.2
  clear hnone b4 bF bG
  go_wp2_with (at_builtin; refine wpList_append_any rfl (.tmp 17) (.tmp 19) 22 32 rfl Try.underlying22 hi hz0 hz1 hz2 rfl (by decide) (by decide) w3.heap.size a l.length ca (ndsV l) rfl rfl own0 HN.out (ndsV_len _) HS.out.src (ndsV_one HS.out.all) (by omega) hsz4 ?_; intro v5 w5 hown5 hb5; simp only [Nat.zero_add, List.nil_append] at hown5; obtain ⟨a5, c5, rfl⟩ := own_slice hown5; have bG5 := bG4.below hb5 hBG; have hB5 := hB4.trans (hb5.mono hB.size); obtain ⟨⟨q0, q1, q2, q3⟩, e0, e1, e2, e3⟩ := bG5.four; have bG6 := bG5.set 3 (.slice a5 l.length c5); rw [show (fsC mi mb nx (.slice a l.length ca)).setIfInBounds 3 (.slice a5 l.length c5) = fsC mi mb nx (.slice a5 l.length c5) from rfl] at bG6; have hB6 := hB5.setCell (p := ⟨BG, 3, none⟩) (Nat.le_of_lt hlt2) (.slice a5 l.length c5); have own6 := World.ownsRow.kept hown5 (grownBy_set w5 BG 3 (.slice a5 l.length c5)) (own_not hown5 hBG); generalize hw6 : World.setCell w5 ⟨BG, 3, none⟩ (.slice a5 l.length c5) = w6 at *; clear hB5 bG5)
  clear hw6 q0 q1 q2 q3 e0 e1 e2 e3 hown5 hb5 p3 bF4 bG4 hB4 own0
  have hN3 := hB.size
  clear HS nV hsz4 hB
  generalize w3.heap.size = N3 at *
  go_loopw [6, 7] (fun s6 s7 wr => ∃ k : Nat, k ≤ l.length ∧ s7 = .int .i64 k ∧ s6 = .int .i64 (addS odd l k : Int) ∧ Below w.heap.size w wr ∧ Aside (Blk wr BG 24 (fsC mi mb nx (.slice a5 l.length c5))) ∧ Aside (wr.ownsRow N3 32 6 (.slice a5 l.length c5) l.length (ndsV (addL odd l k)))) (fun _ s7 _ => l.length - (intOf s7).toNat)
  case atStart => exact ⟨0, Nat.zero_le _, rfl, by cases odd <;> rfl, hB6, bG6, by (show World.ownsRow _ _ _ _ _ _ _); rw [addL_zero]; exact own6⟩
  case round =>
    clear hB6 bG6 own6
    obtain ⟨k, hk, rfl, rfl, hbw, HG, HO⟩ := hrel
    have q3 := HG.out.four.1.2.2.2
    by_cases hlt : k < l.length
    · obtain ⟨g, rfl⟩ : ∃ g, a5 = some ⟨g, 0, none⟩ := by
        rcases own_cases HO.out with ⟨_, h0, _⟩ | ⟨g, cap, h, _⟩
        · omega
        · simp only [Value.slice.injEq] at h; exact ⟨g, h.1⟩
      have hg := (HO.out.lt g rfl).1
      have hwg : w.heap.size ≤ g := Nat.le_trans hN3 hg
      obtain ⟨c0, c1, c2, c3, c4, c5x⟩ := row_cells HO.out hlt
      have f1 := HO.out.frozenAt (k * 6 + 1)
      have f3 := HO.out.frozenAt (k * 6 + 3)
      have hnx := bytesN_next hlt
      have hle := bytesN_take l (k + 1)
      have hd := HD.out _ (List.getElem_mem hlt)
      have k0 : (0 : Int) ≤ (k : Int) := by omega
      have k1 : (k : Int) < (l.length : Int) := by omega
      cases odd
      · have hodd2 : (z.tmod 2 == 1) = false := by rw [Int.tmod_eq_emod_of_nonneg hz.1]; exact hodd
        have hS1 : addS false l (k + 1) = addS false l k + costN l[k] := hnx
        have hS2 : addS false l (k + 1) ≤ 200000 := Nat.le_trans hle hfb.2
        generalize addS false l k = U at *
        generalize hT : addS false l (k + 1) = T at *
        have HT := Lib.hid hT
        clear hT
        cases hk1 : (l[k].kind != 1)
        · have hkd : l[k].kind = 1 := by simpa using hk1
          have HR := Lib.hid (rowA HO.out hlt hkd)
          rw [costN_yes hkd] at hS1
          clear hnx hle hkd
          generalize l[k] = y at *
          obtain ⟨yi, yk, yl, yd, yp, ye, yn⟩ := y
          dsimp only at c0 c1 c2 c3 c4 c5x hd hk1 hS1
          go_wp2
          go_roundw
          case rel => exact ⟨k + 1, by omega, by go_num, by rw [HT.out, hS1]; go_num, hbw, HG.out, HR.out⟩
          case measure => simp [intOf]; omega
        · have hkd : ¬ l[k].kind = 1 := by simpa using hk1
          have O2 : wr.drew.ownsRow N3 32 6 (.slice (some ⟨g, 0, none⟩) l.length c5) l.length (ndsV (addL false l k)) := HO.out
          have HR := Lib.hid (rowC O2 hlt hkd)
          have G2 : Blk wr.drew BG 24 (fsC mi mb nx (.slice (some ⟨g, 0, none⟩) l.length c5)) := HG.out
          have hb2 : Below w.heap.size w wr.drew := hbw.drew
          have C2 := Lib.hid (row_cells O2 hlt)
          have F2 := O2.frozenAt (k * 6 + 3)
          rw [costN_no hkd] at hS1
          clear hnx hle hkd O2
          generalize l[k] = y at *
          obtain ⟨yi, yk, yl, yd, yp, ye, yn⟩ := y
          dsimp only at c0 c1 c2 c3 c4 c5x hd hk1 hS1
          have hct := cat4 yd
          have hcat : ∀ W, (Op.stringOp .add ⟨yd.toArray⟩ ⟨#[109, 111, 114, 101]⟩).run Try.prog W = .ok (.string ⟨(yd ++ [109, 111, 114, 101]).toArray⟩) W := fun W => by rw [← hct]; exact run_string_add_sum W _ _ (by simp [ByteArray.size]; omega)
          have hcs : ¬ (9223372036854775807 < yd.length + 4) := by omega
          go_upto_region 10 with fail
          go_still_tail 12, (by kernel_rfl)
          change wpList _ _ _ _ _ wr.drew
          generalize wr.drew = w2 at *
          clear c0 c1 c2 c3 c4 c5x f1 f3 q3
          obtain ⟨d0, d1, d2, d3, d4, d5⟩ := C2.out
          dsimp only at d3
          have hb3 := hb2.setCell (p := ⟨g, k * 6 + 3, none⟩) hwg (.string ⟨(yd ++ [109, 111, 114, 101]).toArray⟩)
          have G3 := G2.other (B2 := g) (i := k * 6 + 3) (by omega) (.string ⟨(yd ++ [109, 111, 114, 101]).toArray⟩)
          go_wp2
          go_roundw
          case rel => exact ⟨k + 1, by omega, by go_num, by rw [HT.out, hS1]; go_num, hb3, G3, HR.out⟩
          case measure => simp [intOf]; omega
      · have hodd2 : (z.tmod 2 == 1) = true := by rw [Int.tmod_eq_emod_of_nonneg hz.1]; exact hodd
        have hS0 : ((addS true l k : Nat) : Int) = 0 := rfl
        rw [hS0]
        cases hk1 : (l[k].kind != 1)
        · have hkd : l[k].kind = 1 := by simpa using hk1
          have HR := Lib.hid (rowB HO.out hlt hkd)
          clear hnx hle hkd hS0
          generalize l[k] = y at *
          obtain ⟨yi, yk, yl, yd, yp, ye, yn⟩ := y
          dsimp only at c0 c1 c2 c3 c4 c5x hd hk1
          have hb3 := hbw.setCell (p := ⟨g, k * 6 + 1, none⟩) hwg (.int .i64 2)
          have G3 := HG.out.other (B2 := g) (i := k * 6 + 1) (by omega) (.int .i64 2)
          go_wp2
          go_roundw
          case rel => exact ⟨k + 1, by omega, by go_num, rfl, hb3, G3, HR.out⟩
          case measure => simp [intOf]; omega
        · have hkd : ¬ l[k].kind = 1 := by simpa using hk1
          have O2 : wr.drew.ownsRow N3 32 6 (.slice (some ⟨g, 0, none⟩) l.length c5) l.length (ndsV (addL true l k)) := HO.out
          have HR := Lib.hid (rowD O2 hlt hkd)
          have HK := Lib.hid (row_kind O2 hlt (.string ⟨(l[k].data ++ [109, 111, 114, 101]).toArray⟩))
          have G2 : Blk wr.drew BG 24 (fsC mi mb nx (.slice (some ⟨g, 0, none⟩) l.length c5)) := HG.out
          have hb2 : Below w.heap.size w wr.drew := hbw.drew
          have C2 := Lib.hid (row_cells O2 hlt)
          have F2 := O2.frozenAt (k * 6 + 3)
          clear hnx hle hkd O2 hS0
          generalize l[k] = y at *
          obtain ⟨yi, yk, yl, yd, yp, ye, yn⟩ := y
          dsimp only at c0 c1 c2 c3 c4 c5x hd hk1 HR HK
          have hct := cat4 yd
          have hcat : ∀ W, (Op.stringOp .add ⟨yd.toArray⟩ ⟨#[109, 111, 114, 101]⟩).run Try.prog W = .ok (.string ⟨(yd ++ [109, 111, 114, 101]).toArray⟩) W := fun W => by rw [← hct]; exact run_string_add_sum W _ _ (by simp [ByteArray.size]; omega)
          have hcs : ¬ (9223372036854775807 < yd.length + 4) := by omega
          go_upto_region 10 with fail
          go_still_tail 12, (by kernel_rfl)
          change wpList _ _ _ _ _ wr.drew
          generalize wr.drew = w2 at *
          clear c0 c1 c2 c3 c4 c5x f1 f3 q3
          obtain ⟨d0, d1, d2, d3, d4, d5⟩ := C2.out
          dsimp only at d3
          have hb3 := (hb2.setCell (p := ⟨g, k * 6 + 3, none⟩) hwg (.string ⟨(yd ++ [109, 111, 114, 101]).toArray⟩)).setCell (p := ⟨g, k * 6 + 1, none⟩) hwg (.int .i64 2)
          have G3 := G2.other (B2 := g) (i := k * 6 + 3) (by omega) (.string ⟨(yd ++ [109, 111, 114, 101]).toArray⟩)
          have G4 := G3.other (B2 := g) (i := k * 6 + 1) (by omega) (.int .i64 2)
          have q3 := G3.four.1.2.2.2
          obtain ⟨g1, g2⟩ := HK.out
          go_wp2
          go_roundw
          case rel => exact ⟨k + 1, by omega, by go_num, rfl, hb3, G4, HR.out⟩
          case measure => simp [intOf]; omega
    · obtain rfl : k = l.length := by omega
      have hfin := HO.out
      rw [addL_end] at hfin
      have nF := own_nds hfin (add_all (HA.out.below hbw))
      have hBy := Bytes_any mi mb nx (l.map (addN odd)) _ wr nF (by simp; omega) (by rw [add_bytes]; split <;> omega)
      rw [add_bytes] at hBy
      have hs : addS odd l l.length = (if odd = true then 0 else bytesN l) := by simp [addS]
      rw [hs]
      generalize (if odd = true then 0 else bytesN l) = t at *
      obtain ⟨⟨q0, q1, q2, q4⟩, _⟩ := HG.out.four
      clear hs hfin nF
      go_wp2_with fail
      refine hBy.mono ?_
      rintro e w9 ⟨rfl, b9⟩
      clear hBy
      go_wp2
      go_ret
      exact ⟨rfl, hbw.trans (b9.mono hbw.size)⟩

namespace LRoomFiles
set_option maxRecDepth 100000 in
theorem lifted (os : Os) (started : os.Started) (H : Type) (enc : TypeId × Value → H) :
    ReturnsInHanded {} Try.checked os 5 .any (Rows.roomFilesSpec.pre6 enc Try.prog Try.f5 Rows.roomFilesRow.domain false) (Rows.roomFilesSpec.post enc Try.prog Try.f5 false true false false) := by
  refine returnsInHanded_of_change (C := Try.checked) (by kernel_rfl) started (by kernel_rfl) Try.func5
    (ChangeSpec.witness6 (enc := enc) (C := Try.checked) false ⟨#[], #[.agg #[.int .i64 0, .int .i64 0, .int .i64 0, .slice none 0 0], .int .u8 0], []⟩ 8 (by kernel_rfl) (by kernel_rfl) (by kernel_rfl) (by kernel_rfl)) ?_
  intro W base args ds gs before hval0 hW hcnd _
  have hval : ∀ (j : Nat) t v, Try.f5.params[j]? = some t → args[j]? = some v → Value.okWide Try.prog W .any base t v := hval0
  have hW' := hW
  obtain ⟨p, q, hA0, hV, rfl, hfz, hnd⟩ := hW
  have hA : DataW.TrodAll enc Try.prog W 0 (fun _ => true) true Try.f5.params.toList args.toList ds p := hA0
  rw [Try.params5] at hA hval
  obtain ⟨v0, vs0, d0, ds0, p0, q0, hargs, rfl, rfl, k0, r0⟩ := trodAll_cons hA
  obtain ⟨v1, vs1, d1, ds1, p1, q1, rfl, rfl, rfl, k1, r1⟩ := trodAll_cons r0
  obtain ⟨rfl, rfl, rfl⟩ := trodAll_nil r1
  obtain rfl : args = #[v0, v1] := by cases args; simp_all
  obtain ⟨rfl, rfl⟩ := trodVars_none hV
  have ok0 := hval 0 24 v0 rfl rfl
  have ok1 := hval 1 5 v1 rfl rfl
  have lt0 : ∀ x ∈ p0, x.block < W.heap.size := by obtain ⟨m, hm⟩ := k0; exact DataW.trod_lt m _ _ _ hm
  have lt1 : ∀ x ∈ p1, x.block < W.heap.size := by obtain ⟨m, hm⟩ := k1; exact DataW.trod_lt m _ _ _ hm
  have C : Calls Try.prog 5 #[v0, v1] W fun e w' => e = .returned (.bool true) ∧ Below W.heap.size W w' := by
    clear hA0 hval0 hval hW' hcnd hV hfz hnd
    obtain ⟨mi, mb, nx, x, l, rfl, hx⟩ := fs_of_trod k0 ok0
    obtain ⟨z, rfl, rfl, rfl, hz⟩ := open_int Try.underlying5 ok1 k1
    exact lawFiles mi mb nx z l x W hx (by have := bounds_u8 hz; omega)
  refine C.mono fun e W' ⟨he, bel⟩ => ?_
  subst he
  exact ⟨_, rfl, _, _, _, [], _, [], hW', trodAll_mk1 (shut_bool Try.underlying4 _), (trodAll_cons_mk (Below.trod laidOut (by kernel_rfl) (of_decide_eq_true (by kernel_rfl)) k0 bel lt0) (trodAll_cons_mk (Below.trod laidOut (by kernel_rfl) (of_decide_eq_true (by kernel_rfl)) k1 bel lt1) trodAll_mk0)), rfl, bel.frame _, fun h => by cases h⟩
theorem proved : Rows.RoomFilesSaid :=
  OpenClaim.holds_of_wide 5 Try.f5 rfl rfl rfl rfl rfl rfl rfl ⟨rfl, rfl, rfl, rfl, rfl⟩ rfl rfl rfl rfl rfl (by kernel_rfl) Try.func5 (by kernel_rfl)
    (of_decide_eq_true (by kernel_rfl)) (by unfold Func.isWrapper; first | (rw [if_pos (by decide +kernel)]; kernel_rfl) | (rw [if_neg (by decide +kernel)]; exact ⟨rfl, rfl⟩))
    (fun os started H enc _ => lifted os started H enc)
#print axioms proved
end LRoomFiles
end Go.Proofs.Ytghncegngmeleaa
