import Derived.Test.YtboceckeebhfoaaDoorQMByts17
import Derived.Test.YtboceckeebhfoaaDoorQMWalkA01
import Derived.Test.YtboceckeebhfoaaDoorQMMore
import Derived.Laws.OwnMore
import Derived.Deep.Cut
import Derived.Deep.RegionHeld3
set_option linter.unusedVariables false
set_option linter.unusedSimpArgs false
/- For every command and whatever few letters of its options: in one word, in words of their own, or turned round, with -- behind them, and whatever few and short words behind that: they are read as the same command, or the same is told; the words are its operands, as they stand. -/
set_option linter.unusedVariables false
set_option linter.unusedSimpArgs false
namespace Go.Proofs.YtboceckeebhfoaaDoor
open Go.ChangeShapes Go.WideShapes Go.ChangeAt Go.RowKit
open Go.ChangeMaps (open_string shut_string)
set_option linter.unusedVariables false
attribute [local go_sem] ByteArray.mk_append_mk

/-- The letters drawn, so far. -/
def drawL (A : List UInt8) (ds : List Nat) (k : Nat) : List UInt8 := (ds.take k).map (fun x => A.getD (x % A.length) 0)
theorem drawL_next {A : List UInt8} {ds : List Nat} {k : Nat} (h : k < ds.length) : drawL A ds (k + 1) = drawL A ds k ++ [A.getD (ds[k] % A.length) 0] := by
  unfold drawL
  rw [List.take_succ_eq_append_getElem h, List.map_append]; rfl
theorem drawL_len {A : List UInt8} {ds : List Nat} {k : Nat} (h : k ≤ ds.length) : (drawL A ds k).length = k := by
  unfold drawL
  rw [List.length_map, List.length_take]; omega
theorem drawL_in {A : List UInt8} {ds : List Nat} {k : Nat} (hA : 0 < A.length) : ∀ c ∈ drawL A ds k, c ∈ A := by
  intro c hc
  obtain ⟨x, _, rfl⟩ := List.mem_map.1 hc
  have h := Nat.mod_lt x hA
  rw [List.getD_eq_getElem?_getD, List.getElem?_eq_getElem h]
  exact List.getElem_mem h
/-- A row of texts of the call's own. -/
abbrev Row17 (w : World) (base : Nat) (v : Value) (l : List (List UInt8)) : Prop := w.ownsRow base 9 1 v l.length (strsV l)
def Apart17 (v u : Value) : Prop := ∀ g, v.ownBlock = some g → u.ownBlock ≠ some g
theorem Apart17.symm {v u : Value} (h : Apart17 v u) : Apart17 u v := fun g h1 h2 => h g h2 h1
theorem Apart17.kept {w w' : World} {base n : Nat} {v u : Value} {xs : List Value} (ap : Apart17 v u) (h : w.ownsRow base 9 1 v n xs) (hg : w.grownBy w' u.ownBlock) : w'.ownsRow base 9 1 v n xs := by
  refine h.kept hg ?_
  cases hv : v.ownBlock with
  | none => exact .inl rfl
  | some g => exact .inr (fun e => ap g hv e.symm)
theorem Apart17.next {w : World} {base n : Nat} {v u u' : Value} {xs : List Value} (ap : Apart17 v u) (h : w.ownsRow base 9 1 v n xs) (hn : ∀ g, u'.ownBlock = some g → u.ownBlock = some g ∨ w.heap.size ≤ g) : Apart17 v u' := by
  intro g h1 h2
  rcases hn g h2 with h3 | h3
  · exact ap g h1 h3
  · have := (h.lt g h1).2; omega
theorem apart_row17 {w : World} {base n : Nat} {v u : Value} {xs : List Value} (h : w.ownsRow base 9 1 v n xs) (hu : ∀ g, u.ownBlock = some g → w.heap.size ≤ g) : Apart17 v u := by
  intro g h1 h2
  have := (h.lt g h1).2
  have := hu g h2
  omega
theorem box_next17 {w : World} {X : Nat} {u u' : Value} (hX : X < w.heap.size) (h : u.ownBlock ≠ some X) (hn : ∀ g, u'.ownBlock = some g → u.ownBlock = some g ∨ w.heap.size ≤ g) : u'.ownBlock ≠ some X := by
  intro e
  rcases hn X e with h3 | h3
  · exact h h3
  · omega
theorem strsC_capO {w : World} {a : Option Addr} {n c : Nat} {l : List (List UInt8)} (h : StrsC w (.slice a n c) l) : a = none → n = 0 ∧ c = 0 := fun e => by
  have := h.2 a n c rfl
  have h2 := this.2 e
  exact ⟨by omega, h2⟩
theorem row_slice17 {w : World} {base n : Nat} {v : Value} {xs : List Value} (h : w.ownsRow base 9 1 v n xs) : ∃ a c, v = .slice a n c := own_sl17 h
theorem argA_in17 (k : Int) (ls : List UInt8) (ops : List (List UInt8)) : argA k ls ops = (nameK k :: (if ls = [] then [] else [45 :: ls])) ++ [45, 45] :: ops := rfl
theorem argB_in17 (k : Int) (ls : List UInt8) (ops : List (List UInt8)) : argB k ls ops = (nameK k :: ls.map (fun c => [45, c])) ++ [45, 45] :: ops := rfl
theorem cut_one17 (x : UInt8) (l : List UInt8) : (⟨(x :: l).toArray⟩ : ByteArray).extract 1 (x :: l).length = ⟨l.toArray⟩ := by
  rw [ByteArray.extract_mk]
  simp
theorem tmod_nat17 (x n : Nat) : (x : Int).tmod (n : Int) = ((x % n : Nat) : Int) := by
  rw [Int.tmod_eq_emod_of_nonneg (by omega), Int.natCast_emod]
theorem tmod_wrap17 (x n : Nat) (hx : x < 256) : (wrap64 (x : Int)).tmod (n : Int) = ((x % n : Nat) : Int) := by
  rw [IntWalk.wrap64_in _ (by omega)]; exact tmod_nat17 _ _
theorem getD17 {A : List UInt8} {j : Nat} (h : j < A.length) : A.getD j 0 = A[j] := by simp [h]
set_option maxHeartbeats 8000000 in
set_option maxRecDepth 100000 in
theorem lawOrder17 (m : Nat) (ds : List Nat) (l : List (List UInt8)) (vd v : Value) (w : World) (hm : m < 256) (hd : Byts w vd ds) (hv : StrsC w v l) (hL : Laid17 w) :
    Calls Tryd.prog 5 #[.int .u8 (m : Int), vd, v] w fun e w' => e = .returned (.bool true) ∧ Below w.heap.size w w' := by
  have HL := Lib.hid hL
  clear hL
  obtain ⟨a, ca, rfl⟩ := strsC_slice hv
  obtain ⟨ad, cd, rfl, hdm, hd256, HD0⟩ := hd
  unfold maxLen at hdm
  by_cases h20 : 20 < ds.length
  · have h20' : (20 : Int) < (ds.length : Int) := by omega
    go_enter Tryd.func5, Tryd.ntmps5
    go_wp2_with fail; refine (awake17 _ HL.out).mono ?_; rintro e w1 ⟨rfl, b1⟩
    go_wp2_with fail; refine (awake17 _ (HL.out.next b1)).mono ?_; rintro e w2 ⟨rfl, b2⟩
    go_wp2
    go_ret
    exact ⟨rfl, b1.trans (b2.mono b1.size)⟩
  have h20' : ¬ (20 : Int) < (ds.length : Int) := by omega
  cases hf : fewB l
  · go_enter Tryd.func5, Tryd.ntmps5; go_wp2_with fail; refine (awake17 _ HL.out).mono ?_; rintro e w1 ⟨rfl, b1⟩; go_wp2_with fail; refine (Few_any l _ _ (hv.1.below b1)).mono ?_; rintro e w2 ⟨rfl, rfl⟩; rw [hf]; go_wp2_with fail; refine (awake17 _ (HL.out.next b1)).mono ?_; rintro e w2 ⟨rfl, b2⟩; go_wp2; go_ret; exact ⟨rfl, b1.trans (b2.mono b1.size)⟩
  obtain ⟨h40, h300⟩ := fewB_small hf
  obtain ⟨kk, hkk⟩ : ∃ kk : Nat, kk = 1 + m % 5 := ⟨_, rfl⟩
  have hK : 1 + (m : Int) % 5 = (kk : Int) := by omega
  have hk1 : 1 ≤ (kk : Int) ∧ (kk : Int) ≤ 5 := by omega
  obtain ⟨A, hA⟩ : ∃ A, allL (kk : Int) = A := ⟨_, rfl⟩
  obtain ⟨q1, q2, q3, q4, q5⟩ := allL_in hk1.1 hk1.2
  rw [hA] at q1 q3 q4 q5
  have hT : ∀ w2 : World, Blk (w2.alloc (.cells #[.string ⟨#[]⟩, .string ⟨#[112]⟩, .string ⟨#[100, 102, 114]⟩, .string ⟨#[102, 110, 115, 84]⟩, .string ⟨#[102, 84]⟩, .string ⟨#[102, 114, 80, 84]⟩] 9)) w2.heap.size 9 #[.string ⟨#[]⟩, .string ⟨#[112]⟩, .string ⟨#[100, 102, 114]⟩, .string ⟨#[102, 110, 115, 84]⟩, .string ⟨#[102, 84]⟩, .string ⟨#[102, 114, 80, 84]⟩] := fun w2 => Blk.new w2 _ _
  have hTk : (#[.string ⟨#[]⟩, .string ⟨#[112]⟩, .string ⟨#[100, 102, 114]⟩, .string ⟨#[102, 110, 115, 84]⟩, .string ⟨#[102, 84]⟩, .string ⟨#[102, 114, 80, 84]⟩] : Array Value)[kk]? = some (.string ⟨A.toArray⟩) := by
    have hcase : kk = 1 ∨ kk = 2 ∨ kk = 3 ∨ kk = 4 ∨ kk = 5 := by omega
    rcases hcase with rfl | rfl | rfl | rfl | rfl <;> subst hA <;> rfl
  have HD := Lib.hid HD0
  have HV := Lib.hid hv
  have H256 := Lib.hid hd256
  have H300 := Lib.hid h300
  have HA := Lib.hid hA
  clear hA HD0 hv hd256 h300 hkk q1 q2 q3
  go_enter Tryd.func5, Tryd.ntmps5
  go_wp2_with fail; refine (awake17 _ HL.out).mono ?_; rintro e w1 ⟨rfl, b1⟩
  go_wp2_with fail; refine (Few_any l _ _ (HV.out.1.below b1)).mono ?_; rintro e w2 ⟨rfl, rfl⟩
  rw [hf]
  have c4 := ((hT w1).cell kk).trans hTk
  have hTb := below_new w1 (.cells #[.string ⟨#[]⟩, .string ⟨#[112]⟩, .string ⟨#[100, 102, 114]⟩, .string ⟨#[102, 110, 115, 84]⟩, .string ⟨#[102, 84]⟩, .string ⟨#[102, 114, 80, 84]⟩] 9)
  clear hT hTk hf
  have k0 : (0 : Int) ≤ (kk : Int) := by omega
  have k1 : (kk : Int) < 6 := by omega
  go_upto_region 8 with fail
  have hB3 := b1.trans (hTb.mono b1.size)
  clear c4 b1
  generalize w1.alloc (.cells #[.string ⟨#[]⟩, .string ⟨#[112]⟩, .string ⟨#[100, 102, 114]⟩, .string ⟨#[102, 110, 115, 84]⟩, .string ⟨#[102, 84]⟩, .string ⟨#[102, 114, 80, 84]⟩] 9) = w3 at *
  clear hTb
  obtain ⟨is, hsi, hs0, hs1, hs2⟩ := info_parts infoS17
  go_wp2
  go_loopw [9, 10, 11, 12] (fun s9 s10 s11 s12 wr => ∃ k : Nat, k ≤ ds.length ∧ s12 = .int .i64 k ∧ s9 = .string ⟨(45 :: drawL A ds k).toArray⟩ ∧ s10 = .string ⟨(45 :: (drawL A ds k).reverse).toArray⟩ ∧ Aside (wr.ownsRow w.heap.size 9 1 s11 k (strsV ((drawL A ds k).map (fun c => [45, c])))) ∧ Below w.heap.size w wr) (fun _ _ _ s12 _ => ds.length - (intOf s12).toNat)
  case atStart => exact ⟨0, Nat.zero_le _, rfl, rfl, rfl, World.ownsRow_nil _ _ _ _, hB3⟩
  case round =>
    clear hB3
    obtain ⟨k, hk, rfl, rfl, rfl, HO, hbw⟩ := hrel
    by_cases hlt : k < ds.length
    · obtain ⟨bd, od, rfl, hbd, hcd⟩ := HD.out (by omega)
      obtain ⟨x, hxe⟩ : ∃ x, x = ds[k] := ⟨_, rfl⟩
      have ck := (hbw.cell (p := ⟨bd, od + k, none⟩) hbd).trans (hcd k hlt)
      have hnx := drawL_next (A := A) hlt
      have hx := H256.out _ (List.getElem_mem hlt)
      rw [← hxe] at ck hnx hx
      obtain ⟨j, hje⟩ : ∃ j, j = x % A.length := ⟨_, rfl⟩
      have hjl : j < A.length := by rw [hje]; exact Nat.mod_lt _ (by omega)
      have HJ := Lib.hid (tmod_wrap17 x A.length hx)
      rw [← hje] at HJ hnx
      rw [getD17 hjl] at hnx
      clear hcd hxe hje hx
      have hdl := drawL_len (A := A) hk
      obtain ⟨a11, c11, rfl⟩ := own_sl17 HO.out
      generalize drawL A ds k = ls at *
      have k2 : (0 : Int) ≤ (k : Int) := by omega
      have k3 : (k : Int) < (ds.length : Int) := by omega
      have j0 : (0 : Int) ≤ (j : Int) := by omega
      have j1 : (j : Int) < (A.length : Int) := by omega
      have hAne : ¬ A.length = 0 := by omega
      have HDL := Lib.hid hdl
      clear hdl
      generalize hc : A[j] = c at *
      have HNX := Lib.hid hnx
      clear hnx
      have hl1 : ls.length ≤ 100 := by have := HDL.out; omega
      have hj := HJ.out
      go_upto_region 12 with fail
      clear ck hj HJ
      have hcv1 := run_new_string (P := Tryd.prog) wr 34 9 Tryd.underlying34 Tryd.underlying5 Tryd.underlying9 [c] #[.int .u8 (c.toNat : Int)] rfl 1 rfl
      go_upto_region 13 with fail
      have g1 := below_new wr (.cells #[.int .u8 (c.toNat : Int)] 5)
      have hb1 := hbw.trans (g1.mono hbw.size)
      have ho1 := HO.out.alloc (.cells #[.int .u8 (c.toNat : Int)] 5)
      generalize wr.alloc (.cells #[.int .u8 (c.toNat : Int)] 5) = x1 at *
      clear hcv1 g1
      have hcv2 : (convert 34 9 (.slice (some ⟨x1.heap.size, 0, none⟩) 1 1)).run Tryd.prog (x1.alloc (.cells #[.int .u8 (c.toNat : Int)] 5)).drew = .ok (.string ⟨[c].toArray⟩) (x1.alloc (.cells #[.int .u8 (c.toNat : Int)] 5)).drew := run_new_string (P := Tryd.prog) x1.drew 34 9 Tryd.underlying34 Tryd.underlying5 Tryd.underlying9 [c] #[.int .u8 (c.toNat : Int)] rfl 1 rfl
      have hcat1 := cat_run (P := Tryd.prog) [45] [c] (by simp)
      have hcat2 := cat_run (P := Tryd.prog) [45, c] ls.reverse (by simp; omega)
      have htl : (1 : Int) ≤ ((45 :: ls.reverse).length : Int) := by simp; omega
      have hcut := cut_one17 45 ls.reverse
      generalize (45 :: ls.reverse) = tr at *
      (refine wp_region_held_drew (S := (fun _ => True)) (by kernel_rfl) (trivial) (fun hHeld => ?_))
      (refine heldTake 0 (some 65) (v := ?_) rfl rfl (by kernel_rfl) (by kernel_rfl) (by kernel_rfl) (fun _ _ _ h => h) (by rfl) ?_ (by assumption) ?_; rotate_left; (focus (intro w hSw; (try dsimp only at hSw); go_simp; try with_reducible rfl)); (try simp only [Act.put, List.setIfInBounds_toArray, List.set_cons_zero, List.set_cons_succ]))
      (refine heldTake 4 (some 69) (v := ?_) rfl rfl (by kernel_rfl) (by kernel_rfl) (by kernel_rfl) (fun _ _ _ h => h) (by rfl) ?_ (by assumption) ?_; rotate_left; (focus (intro w hSw; (try dsimp only at hSw); go_simp; try with_reducible rfl)); (try simp only [Act.put, List.setIfInBounds_toArray, List.set_cons_zero, List.set_cons_succ]))
      (refine heldTake 5 (some 70) (v := ?_) rfl rfl (by kernel_rfl) (by kernel_rfl) (by kernel_rfl) (fun _ _ _ h => h) (by rfl) ?_ (by assumption) ?_; rotate_left; (focus (intro w hSw; (try dsimp only at hSw); go_simp; try with_reducible rfl)); (try simp only [Act.put, List.setIfInBounds_toArray, List.set_cons_zero, List.set_cons_succ]))
      (refine wpAnyH_ready (rs := [1]) (by kernel_rfl) (by simp) ?_; refine AllReadyH.cons rfl (fun K hK => ?_) AllReadyH.nil; go_simp; skip; (try dsimp only); refine hK.out _ _ (trivial) (fun hHeld => ?_); clear hK K; (try simp only [Act.put, List.setIfInBounds_toArray, List.set_cons_zero, List.set_cons_succ]))
      (refine wpAnyH_ready (rs := [2]) (by kernel_rfl) (by simp) ?_; refine AllReadyH.cons rfl (fun K hK => ?_) AllReadyH.nil; go_simp; skip; (try dsimp only); refine hK.out _ _ (trivial) (fun hHeld => ?_); clear hK K; (try simp only [Act.put, List.setIfInBounds_toArray, List.set_cons_zero, List.set_cons_succ]))
      (refine heldTake 3 (some 68) (v := ?_) rfl rfl (by kernel_rfl) (by kernel_rfl) (by kernel_rfl) (fun _ _ _ h => h) (by rfl) ?_ (by assumption) ?_; rotate_left; (focus (intro w hSw; (try dsimp only at hSw); go_simp; try with_reducible rfl)); (try simp only [Act.put, List.setIfInBounds_toArray, List.set_cons_zero, List.set_cons_succ]))
      (refine heldTake 6 (some 71) (v := ?_) rfl rfl (by kernel_rfl) (by kernel_rfl) (by kernel_rfl) (fun _ _ _ h => h) (by rfl) ?_ (by assumption) ?_; rotate_left; (focus (intro w hSw; (try dsimp only at hSw); go_simp; try with_reducible rfl)); (try simp only [Act.put, List.setIfInBounds_toArray, List.set_cons_zero, List.set_cons_succ]))
      (refine heldTake 7 (some 10) (v := ?_) rfl rfl (by kernel_rfl) (by kernel_rfl) (by kernel_rfl) (fun _ _ _ h => h) (by rfl) ?_ (by assumption) ?_; rotate_left; (focus (intro w hSw; (try dsimp only at hSw); go_simp; try with_reducible rfl)); (try simp only [Act.put, List.setIfInBounds_toArray, List.set_cons_zero, List.set_cons_succ]))
      refine wpAnyH_done (by kernel_rfl) ?_ _
      have g2 := (below_new x1 (.cells #[.int .u8 (c.toNat : Int)] 5)).drew
      have hb2 := hb1.trans (g2.mono hb1.size)
      have ho2 : (x1.alloc (.cells #[.int .u8 (c.toNat : Int)] 5)).drew.ownsRow w.heap.size 9 1 (.slice a11 k c11) k (strsV (ls.map (fun c => [45, c]))) := ho1.alloc _
      clear hcv2 hcat1 hcat2 hcut htl g2 hb1 ho1
      generalize (x1.alloc (.cells #[.int .u8 (c.toNat : Int)] 5)).drew = x2 at *
      have hcv3 := run_new_string (P := Tryd.prog) x2 34 9 Tryd.underlying34 Tryd.underlying5 Tryd.underlying9 [c] #[.int .u8 (c.toNat : Int)] rfl 1 rfl
      have g3 := below_new x2 (.cells #[.int .u8 (c.toNat : Int)] 5)
      have hb3 := hb2.trans (g3.mono hb2.size)
      have ho3 := ho2.alloc (.cells #[.int .u8 (c.toNat : Int)] 5)
      have hs3 := hb3.size
      go_wp2_with (at_builtin; refine wpList_append_here rfl (.tmp 72) (.tmp 77) 22 9 rfl Tryd.underlying22 hsi hs0 hs1 hs2 rfl (by decide) (by decide) w.heap.size (v := .slice a11 k c11) #[.string ⟨#[45, c]⟩] 1 rfl (by rw [World.size_alloc]; rfl) ho3 rfl (by simp [Value.oneCell']) (by omega) hs3 ?_; intro v7 w7 own7 hgr7 hnew7)
      have hb7 := (hb3.alloc hs3 (.cells #[.string ⟨#[45, c]⟩] 9)).grown hgr7 (by simp at hs3 ⊢; omega) (fun g hg => (ho3.lt g hg).1)
      go_wp2
      go_roundw
      case rel => exact ⟨k + 1, by omega, by go_num, by rw [HNX.out], by rw [HNX.out]; simp, by (show World.ownsRow _ _ _ _ _ _ _); rw [HNX.out, List.map_append]; simpa [strsV] using own7, hb7⟩
      case measure => simp [intOf]; omega
    · obtain rfl : k = ds.length := by omega
      have hlin : ∀ c ∈ drawL A ds ds.length, c ∈ allL (kk : Int) := by rw [HA.out]; exact drawL_in (by omega)
      have hll := drawL_len (A := A) (ds := ds) (Nat.le_refl _)
      obtain ⟨a11, c11, rfl⟩ := own_sl17 HO.out
      generalize drawL A ds ds.length = ls at *
      have hRa := read_a hk1.1 hk1.2 hlin l
      have hRb := read_b hk1.1 hk1.2 hlin l
      have hRd := read_r hk1.1 hk1.2 hlin l
      have hnl : (nameK (kk : Int)).length ≤ 1000 := by rcases (show (kk : Int) = 1 ∨ (kk : Int) = 2 ∨ (kk : Int) = 3 ∨ (kk : Int) = 4 ∨ (kk : Int) = 5 by omega) with h | h | h | h | h <;> rw [h] <;> decide
      rw [argA_in17] at hRa hRd
      rw [argB_in17] at hRb
      have hR2 := ops_two (kk : Int) (nameK (kk : Int)) (optionsF (kk : Int) ls) l
      have hN := fun W => refName_any (kk : Int) W
      generalize nameK (kk : Int) = nm at *
      generalize opsF (kk : Int) nm (optionsF (kk : Int) ls) l = R at *
      have hlen0 : ∀ P : List (List UInt8), P.length ≤ 30 → (P ++ [45, 45] :: l).length ≤ 900 := fun P h => by rw [List.length_append, List.length_cons]; omega
      have hshort : ∀ P : List (List UInt8), (∀ y ∈ P, y.length ≤ 1000) → ∀ y ∈ P ++ [45, 45] :: l, y.length ≤ 1000 := by
        intro P h y hy
        rcases List.mem_append.1 hy with hy | hy
        · exact h y hy
        · rcases List.mem_cons.1 hy with rfl | hy
          · decide
          · have := H300.out y hy; omega
      have hPA : ∀ r : List UInt8, r.length = ls.length → ∀ y ∈ (nm :: (if r = [] then [] else [45 :: r])), y.length ≤ 1000 := by
        intro r hr y hy
        rcases List.mem_cons.1 hy with rfl | hy
        · exact hnl
        · by_cases h : r = []
          · rw [if_pos h] at hy; cases hy
          · rw [if_neg h] at hy
            rw [List.mem_singleton.1 hy, List.length_cons]; omega
      have hPB : ∀ y ∈ (nm :: ls.map (fun c => [45, c])), y.length ≤ 1000 := by
        intro y hy
        rcases List.mem_cons.1 hy with rfl | hy
        · exact hnl
        · obtain ⟨c, _, rfl⟩ := List.mem_map.1 hy
          simp
      have hlA : ∀ r : List UInt8, (nm :: (if r = [] then [] else [45 :: r])).length ≤ 30 := by intro r; by_cases h : r = [] <;> simp [h]
      have hlB : (nm :: ls.map (fun c => [45, c])).length ≤ 30 := by simp; omega
      have RA := Lib.hid (fun v W (hW : StrsC W v _) (hBW : Below w.heap.size w W) => Read17_any _ v W hW (hlen0 _ (hlA ls)) (hshort _ (hPA ls rfl)) (HL.out.next hBW))
      have RD := Lib.hid (fun v W (hW : StrsC W v _) (hBW : Below w.heap.size w W) => Read17_any _ v W hW (hlen0 _ (hlA ls.reverse)) (hshort _ (hPA ls.reverse (by simp))) (HL.out.next hBW))
      have RB := Lib.hid (fun v W (hW : StrsC W v _) (hBW : Below w.heap.size w W) => Read17_any _ v W hW (hlen0 _ hlB) (hshort _ hPB) (HL.out.next hBW))
      rw [hRa] at RA
      rw [hRb] at RB
      rw [hRd] at RD
      have HR2 := Lib.hid hR2
      have HLL := Lib.hid hll
      have HHO := Lib.hid HO.out
      have HLA := Lib.hid hlA
      clear hRa hRb hRd hR2 hlen0 hshort hPA hPB hlA hlB hlin hnl HO HD H256 hll
      go_wp2_with fail
      refine (hN _).mono ?_
      rintro e w5 ⟨rfl, b5⟩
      have hB5 := hbw.trans (b5.mono hbw.size)
      have oW5 := own_keep17 HHO.out b5
      have oA5 := World.ownsRow_lit (base := w.heap.size) (e := 9) (size := 1) w5 #[.string ⟨nm.toArray⟩] 1 hB5.size (by decide) rfl
      have apWA : Apart17 (.slice a11 ds.length c11) (.slice (some ⟨w5.heap.size, 0, none⟩) 1 1) := apart_row17 oW5 (fun g hg => by cases hg; exact Nat.le_refl _)
      have g5 := below_new w5 (.cells #[.string ⟨nm.toArray⟩] 9)
      have oW6 := own_keep17 oW5 g5
      have hB6 := hB5.trans (g5.mono hB5.size)
      clear hbw b5 oW5 g5 hB5
      go_upto_region 16 with fail
      generalize hGA : w5.heap.size = GA at *
      generalize w5.alloc (.cells #[.string ⟨nm.toArray⟩] 9) = w6 at *
      go_wp2_with fail
      refine (hN _).mono ?_
      rintro e w7 ⟨rfl, b7⟩
      have hB7 := hB6.trans (b7.mono hB6.size)
      have oW7 := own_keep17 oW6 b7
      have oA7 := own_keep17 oA5 b7
      have oB7 := World.ownsRow_lit (base := w.heap.size) (e := 9) (size := 1) w7 #[.string ⟨nm.toArray⟩] 1 hB7.size (by decide) rfl
      have apWB : Apart17 (.slice a11 ds.length c11) (.slice (some ⟨w7.heap.size, 0, none⟩) 1 1) := apart_row17 oW7 (fun g hg => by cases hg; exact Nat.le_refl _)
      have apAB : Apart17 (.slice (some ⟨GA, 0, none⟩) 1 1) (.slice (some ⟨w7.heap.size, 0, none⟩) 1 1) := apart_row17 oA7 (fun g hg => by cases hg; exact Nat.le_refl _)
      have g7 := below_new w7 (.cells #[.string ⟨nm.toArray⟩] 9)
      have oW8 := own_keep17 oW7 g7
      have oA8 := own_keep17 oA7 g7
      have hB8 := hB7.trans (g7.mono hB7.size)
      clear b7 oW7 oA7 oA5 oW6 g7 hB6 hB7
      go_upto_region 17 with fail
      generalize w7.heap.size = GB at *
      generalize w7.alloc (.cells #[.string ⟨nm.toArray⟩] 9) = w8 at *
      go_wp2_with fail
      refine (hN _).mono ?_
      rintro e w9 ⟨rfl, b9⟩
      have hB9 := hB8.trans (b9.mono hB8.size)
      have oW9 := own_keep17 oW8 b9
      have oA9 := own_keep17 oA8 b9
      have oB9 := own_keep17 oB7 b9
      have oD9 := World.ownsRow_lit (base := w.heap.size) (e := 9) (size := 1) w9 #[.string ⟨nm.toArray⟩] 1 hB9.size (by decide) rfl
      have apWD : Apart17 (.slice a11 ds.length c11) (.slice (some ⟨w9.heap.size, 0, none⟩) 1 1) := apart_row17 oW9 (fun g hg => by cases hg; exact Nat.le_refl _)
      have apAD : Apart17 (.slice (some ⟨GA, 0, none⟩) 1 1) (.slice (some ⟨w9.heap.size, 0, none⟩) 1 1) := apart_row17 oA9 (fun g hg => by cases hg; exact Nat.le_refl _)
      have apBD : Apart17 (.slice (some ⟨GB, 0, none⟩) 1 1) (.slice (some ⟨w9.heap.size, 0, none⟩) 1 1) := apart_row17 oB9 (fun g hg => by cases hg; exact Nat.le_refl _)
      have g9 := below_new w9 (.cells #[.string ⟨nm.toArray⟩] 9)
      have oW := own_keep17 oW9 g9
      have oA := own_keep17 oA9 g9
      have oB := own_keep17 oB9 g9
      have hB10 := hB9.trans (g9.mono hB9.size)
      clear b9 oW8 oW9 oA8 oA9 oB7 oB9 g9 hB8 hB9 hN
      go_upto_region 18 with fail
      generalize w9.heap.size = GD at *
      generalize w9.alloc (.cells #[.string ⟨nm.toArray⟩] 9) = x0 at *
      go_upto_if 90 with (fail)
      go_cut [14, 16] from 90 (fun s14 s16 wc => Aside (Row17 wc w.heap.size s14 (nm :: (if ls = [] then [] else [45 :: ls])) ∧ Row17 wc w.heap.size s16 (nm :: (if ls.reverse = [] then [] else [45 :: ls.reverse])) ∧ Row17 wc w.heap.size (.slice (some ⟨GB, 0, none⟩) 1 1) [nm] ∧ Row17 wc w.heap.size (.slice a11 ds.length c11) (ls.map (fun c => [45, c])) ∧ Apart17 s14 s16 ∧ Apart17 s14 (.slice (some ⟨GB, 0, none⟩) 1 1) ∧ Apart17 s16 (.slice (some ⟨GB, 0, none⟩) 1 1) ∧ Apart17 (.slice a11 ds.length c11) (.slice (some ⟨GB, 0, none⟩) 1 1)) ∧ Below w.heap.size w wc)
      case first =>
        have hoW : Row17 x0 w.heap.size (.slice a11 ds.length c11) (ls.map (fun c => [45, c])) := by (show World.ownsRow _ _ _ _ _ _ _); rw [List.length_map, HLL.out]; exact oW
        by_cases hn0 : ds.length = 0
        · have hz : ¬ (0 : Int) < (ds.length : Int) := by omega
          have hl0 : Hid (ls = []) := List.eq_nil_of_length_eq_zero (by have := HLL.out; omega)
          clear hn0
          go_wp2_with fail
          go_meet
          exact ⟨(by (show _ ∧ _); rw [hl0.out, if_pos rfl]; rw [hl0.out] at hoW; exact ⟨oA, oD9, oB, hoW, apAD, apAB, apBD.symm, apWB⟩), hB10⟩
        · have hz : (0 : Int) < (ds.length : Int) := by omega
          have hl0 : Hid (¬ ls = []) := fun e => hn0 (by rw [← HLL.out, e]; rfl)
          have hl1 : Hid (¬ ls.reverse = []) := fun e => hl0.out (by simpa using e)
          clear hn0
          have hbz := hB10.size
          go_upto_region 20 with (first | (at_builtin; refine wpList_append_here rfl (.tmp 91) (.tmp 93) 22 9 rfl Tryd.underlying22 hsi hs0 hs1 hs2 rfl (by decide) (by decide) w.heap.size (v := .slice (some ⟨GA, 0, none⟩) 1 1) #[.string ⟨(45 :: ls).toArray⟩] 1 rfl rfl oA rfl (by simp [Value.oneCell']) (by omega) hbz ?_; intro v1 y1 own1 hgr1 hnew1) | fail)
          have g1 := below_new x0 (.cells #[.string ⟨(45 :: ls).toArray⟩] 9)
          have oW1 := (apWA.kept (own_keep17 hoW g1) hgr1)
          have oB1 := (apAB.symm.kept (own_keep17 oB g1) hgr1)
          have oD1 := (apAD.symm.kept (own_keep17 oD9 g1) hgr1)
          have hn1 : ∀ g, v1.ownBlock = some g → Value.ownBlock (.slice (some ⟨GA, 0, none⟩) 1 1) = some g ∨ x0.heap.size ≤ g := fun g h => (hnew1 g h).imp id (fun h => by omega)
          have ap1D := (apAD.symm.next oD9 hn1).symm
          have ap1B := (apAB.symm.next oB hn1).symm
          have hb1 := (hB10.trans (g1.mono hB10.size)).grown hgr1 (by have := g1.size; omega) (fun g hg => (oA.lt g hg).1)
          have hby1 := hb1.size
          clear hoW oA oB oW hgr1 hnew1 hn1 g1 apWA apAB apAD
          obtain ⟨a1, c1, rfl⟩ := row_slice17 own1
          go_wp2_with (first | (at_builtin; refine wpList_append_here rfl (.tmp 95) (.tmp 97) 22 9 rfl Tryd.underlying22 hsi hs0 hs1 hs2 rfl (by decide) (by decide) w.heap.size (v := .slice (some ⟨GD, 0, none⟩) 1 1) #[.string ⟨(45 :: ls.reverse).toArray⟩] 1 rfl rfl oD1 rfl (by simp [Value.oneCell']) (by omega) hby1 ?_; intro v2 y2 own2 hgr2 hnew2) | fail)
          have g2 := below_new y1 (.cells #[.string ⟨(45 :: ls.reverse).toArray⟩] 9)
          have oW2 := (apWD.kept (own_keep17 oW1 g2) hgr2)
          have oB2 := (apBD.kept (own_keep17 oB1 g2) hgr2)
          have oA2 := (ap1D.kept (own_keep17 own1 g2) hgr2)
          have hn2 : ∀ g, v2.ownBlock = some g → Value.ownBlock (.slice (some ⟨GD, 0, none⟩) 1 1) = some g ∨ y1.heap.size ≤ g := fun g h => (hnew2 g h).imp id (fun h => by omega)
          have ap12 := ap1D.next own1 hn2
          have ap2B := (apBD.next oB1 hn2).symm
          have hb2 := (hb1.trans (g2.mono hb1.size)).grown hgr2 (by have := g2.size; omega) (fun g hg => (oD1.lt g hg).1)
          go_meet
          exact ⟨(by (show _ ∧ _); rw [if_neg hl0.out, if_neg hl1.out]; exact ⟨oA2, own2, oB2, oW2, ap12, ap1B, ap2B, apWB⟩), hb2⟩
      case rest =>
        obtain ⟨HC, hbc⟩ := hcut
        obtain ⟨a14, c14, rfl⟩ := row_slice17 HC.out.1
        obtain ⟨a16, c16, rfl⟩ := row_slice17 HC.out.2.1
        obtain ⟨oA, oD, oB, oW, apAD, apAB, apDB, apWB⟩ := HC
        have hPAl := HLA.out ls
        have hPDl := HLA.out ls.reverse
        generalize (nm :: (if ls = [] then [] else [45 :: ls])) = PA at *
        generalize (nm :: (if ls.reverse = [] then [] else [45 :: ls.reverse])) = PD at *
        have hWl : (strsV (ls.map (fun c => [45, c]))).length = ds.length * 1 := by simp [strsV, HLL.out]
        have hWn := fun e => (strsC_capO (own_strsC17 oW) e).1
        have hWs := strs_src17 (own_strs oW)
        have hcz := hbc.size
        have oB' : wc.ownsRow w.heap.size 9 1 (.slice (some ⟨GB, 0, none⟩) 1 1) 1 (strsV [nm]) := oB
        go_upto_region 22 with (first | (at_builtin; refine wpList_append_more rfl (.tmp 99) (.tmp 100) 22 9 rfl Tryd.underlying22 hsi hs0 hs1 hs2 rfl (by decide) (by decide) w.heap.size (v := .slice (some ⟨GB, 0, none⟩) 1 1) a11 ds.length c11 (strsV (ls.map (fun c => [45, c]))) rfl rfl oB' hWn hWl hWs (strsV_one17 _) (by omega) hcz ?_; intro v1 y1 own1 hgr1 hnew1) | fail)
        have oA1 := apAB.kept oA hgr1
        have oD1 := apDB.kept oD hgr1
        have apA1 := apAB.next oA hnew1
        have apD1 := apDB.next oD hnew1
        have oB1 : Row17 y1 w.heap.size v1 (nm :: ls.map (fun c => [45, c])) := by (show World.ownsRow _ _ _ _ _ _ _); simpa [strsV, HLL.out, Nat.add_comm] using own1
        have hb1 := hbc.grown hgr1 hcz (fun g hg => (oB.lt g hg).1)
        have hPBl : (nm :: ls.map (fun c => [45, c])).length ≤ 30 := by rw [List.length_cons, List.length_map, HLL.out]; omega
        generalize (nm :: ls.map (fun c => [45, c])) = PB at *
        obtain ⟨a15, c15, rfl⟩ := row_slice17 oB1
        have hsl : (strsV l).length = l.length * 1 := by simp [strsV]
        have hcap := fun e => (strsC_capO HV.out e).1
        clear oA oD oB oW apAB apDB apWB hWl hWn hWs own1 hgr1 hnew1 hbc hcz HHO HLL
        have apBA0 := apA1.symm
        have apDA0 := apAD.symm
        have apDB0 := apD1
        have hz2 := hb1.size
        go_wp2_with (first | (at_builtin; refine wpList_append_here rfl (.tmp 103) (.tmp 104) 22 9 rfl Tryd.underlying22 hsi hs0 hs1 hs2 rfl (by decide) (by decide) w.heap.size (v := .slice a14 PA.length c14) #[.string ⟨#[45, 45]⟩] 1 rfl rfl oA1 rfl (by simp [Value.oneCell']) (by omega) hz2 ?_; intro vaa yaa ownaa hgraa hnewaa; have gaa := below_new y1 (.cells #[.string ⟨#[45, 45]⟩] 9); have hnaa : ∀ g, vaa.ownBlock = some g → Value.ownBlock (.slice a14 PA.length c14) = some g ∨ y1.heap.size ≤ g := fun g h => (hnewaa g h).imp id (fun h => by omega); have hbaa := (hb1.trans (gaa.mono hb1.size)).grown hgraa (by have := gaa.size; omega) (fun g hg => (oA1.lt g hg).1); have oo2B := (apBA0).kept (own_keep17 oB1 gaa) hgraa; have ap2B := (apBA0).next oB1 hnaa; have oo2D := (apDA0).kept (own_keep17 oD1 gaa) hgraa; have ap2D := (apDA0).next oD1 hnaa; have hsrcaa := strs_src17 (HV.out.below hbaa).1; have hzaa := hbaa.size; obtain ⟨aaa, caa, rfl⟩ := row_slice17 ownaa) | (at_builtin; refine wpList_append_more rfl (.tmp 105) (.tmp 106) 22 9 rfl Tryd.underlying22 hsi hs0 hs1 hs2 rfl (by decide) (by decide) w.heap.size (v := .slice aaa (PA.length + 1) caa) a l.length ca (strsV l) rfl rfl ownaa hcap hsl hsrcaa (strsV_one17 _) (by omega) hzaa ?_; intro vba yba ownba hgrba hnewba) | fail)
        have oo3B := (ap2B).kept (oo2B) hgrba
        have ap3B := (ap2B).next oo2B hnewba
        have oo3D := (ap2D).kept (oo2D) hgrba
        have ap3D := (ap2D).next oo2D hnewba
        have hbba := hbaa.grown hgrba hzaa (fun g hg => (ownaa.lt g hg).1)
        have orowa : Row17 yba w.heap.size vba (PA ++ [45, 45] :: l) := by (show World.ownsRow _ _ _ _ _ _ _); simpa [strsV, Nat.add_assoc, Nat.add_comm 1] using ownba
        refine (RA.out _ _ (own_strsC17 orowa) hbba).mono ?_
        rintro e za ⟨ua, rfl, oua, bza⟩
        obtain ⟨aua, cua, rfl⟩ := own_sl17 oua
        have bwa := below_new za (.cells (cmdC R.1 (.slice aua R.1.ops.length cua)) 26)
        have bta := bza.trans (bwa.mono bza.size)
        have bxa := Blk.new za 26 (cmdC R.1 (.slice aua R.1.ops.length cua))
        have owa := own_keep17 oua bwa
        have hbca := hbba.trans (bta.mono hbba.size)
        have okaB := own_keep17 oo3B bta
        have okaD := own_keep17 oo3D bta
        have apcaB := (apart_row17 (own_keep17 oo3B (Below.refl _ _)) (u := .slice aua R.1.ops.length cua) (fun g hg => (oua.lt g hg).1)).symm
        have apcaD := (apart_row17 (own_keep17 oo3D (Below.refl _ _)) (u := .slice aua R.1.ops.length cua) (fun g hg => (oua.lt g hg).1)).symm
        have nbxaB : Value.ownBlock (.slice a15 PB.length c15) ≠ some za.heap.size := fun e => by have := (own_keep17 oo3B bza).lt _ e; omega
        have nbxaD : Value.ownBlock (.slice a16 PD.length c16) ≠ some za.heap.size := fun e => by have := (own_keep17 oo3D bza).lt _ e; omega
        go_upto_region 23 with fail
        generalize hwa : za.heap.size = XA at *
        generalize za.alloc (.cells (cmdC R.1 (.slice aua R.1.ops.length cua)) 26) = q1 at *
        have hz4 := hbca.size
        go_wp2_with (first | (at_builtin; refine wpList_append_here rfl (.tmp 112) (.tmp 113) 22 9 rfl Tryd.underlying22 hsi hs0 hs1 hs2 rfl (by decide) (by decide) w.heap.size (v := .slice a15 PB.length c15) #[.string ⟨#[45, 45]⟩] 1 rfl rfl okaB rfl (by simp [Value.oneCell']) (by omega) hz4 ?_; intro vab yab ownab hgrab hnewab; have gab := below_new q1 (.cells #[.string ⟨#[45, 45]⟩] 9); have hnab : ∀ g, vab.ownBlock = some g → Value.ownBlock (.slice a15 PB.length c15) = some g ∨ q1.heap.size ≤ g := fun g h => (hnewab g h).imp id (fun h => by omega); have hbab := (hbca.trans (gab.mono hbca.size)).grown hgrab (by have := gab.size; omega) (fun g hg => (okaB.lt g hg).1); have oo4D := (apDB0).kept (own_keep17 okaD gab) hgrab; have ap4D := (apDB0).next okaD hnab; have oo4ca := (apcaB).kept (own_keep17 owa gab) hgrab; have ap4ca := (apcaB).next owa hnab; have nb4xa := box_next17 bxa.lt nbxaB hnab; have bb4xa := (bxa.next gab).kept hgrab (fun e => nbxaB e.symm); have hsrcab := strs_src17 (HV.out.below hbab).1; have hzab := hbab.size; obtain ⟨aab, cab, rfl⟩ := row_slice17 ownab) | (at_builtin; refine wpList_append_more rfl (.tmp 114) (.tmp 115) 22 9 rfl Tryd.underlying22 hsi hs0 hs1 hs2 rfl (by decide) (by decide) w.heap.size (v := .slice aab (PB.length + 1) cab) a l.length ca (strsV l) rfl rfl ownab hcap hsl hsrcab (strsV_one17 _) (by omega) hzab ?_; intro vbb ybb ownbb hgrbb hnewbb) | fail)
        have oo5D := (ap4D).kept (oo4D) hgrbb
        have ap5D := (ap4D).next oo4D hnewbb
        have oo5ca := (ap4ca).kept (oo4ca) hgrbb
        have ap5ca := (ap4ca).next oo4ca hnewbb
        have nb5xa := box_next17 bb4xa.lt nb4xa hnewbb
        have bb5xa := bb4xa.kept hgrbb (fun e => nb4xa e.symm)
        have hbbb := hbab.grown hgrbb hzab (fun g hg => (ownab.lt g hg).1)
        have orowb : Row17 ybb w.heap.size vbb (PB ++ [45, 45] :: l) := by (show World.ownsRow _ _ _ _ _ _ _); simpa [strsV, Nat.add_assoc, Nat.add_comm 1] using ownbb
        refine (RB.out _ _ (own_strsC17 orowb) hbbb).mono ?_
        rintro e zb ⟨ub, rfl, oub, bzb⟩
        obtain ⟨aub, cub, rfl⟩ := own_sl17 oub
        have bwb := below_new zb (.cells (cmdC R.1 (.slice aub R.1.ops.length cub)) 26)
        have btb := bzb.trans (bwb.mono bzb.size)
        have bxb := Blk.new zb 26 (cmdC R.1 (.slice aub R.1.ops.length cub))
        have owb := own_keep17 oub bwb
        have hbcb := hbbb.trans (btb.mono hbbb.size)
        have okbD := own_keep17 oo5D btb
        have okbca := own_keep17 oo5ca btb
        have bkbxa := bb5xa.next btb
        have apcbD := (apart_row17 (own_keep17 oo5D (Below.refl _ _)) (u := .slice aub R.1.ops.length cub) (fun g hg => (oub.lt g hg).1)).symm
        have apcbca := (apart_row17 (own_keep17 oo5ca (Below.refl _ _)) (u := .slice aub R.1.ops.length cub) (fun g hg => (oub.lt g hg).1)).symm
        have nbxbD : Value.ownBlock (.slice a16 PD.length c16) ≠ some zb.heap.size := fun e => by have := (own_keep17 oo5D bzb).lt _ e; omega
        go_upto_region 24 with fail
        generalize hwb : zb.heap.size = XB at *
        generalize zb.alloc (.cells (cmdC R.1 (.slice aub R.1.ops.length cub)) 26) = q2 at *
        have hz6 := hbcb.size
        go_wp2_with (first | (at_builtin; refine wpList_append_here rfl (.tmp 121) (.tmp 122) 22 9 rfl Tryd.underlying22 hsi hs0 hs1 hs2 rfl (by decide) (by decide) w.heap.size (v := .slice a16 PD.length c16) #[.string ⟨#[45, 45]⟩] 1 rfl rfl okbD rfl (by simp [Value.oneCell']) (by omega) hz6 ?_; intro vad yad ownad hgrad hnewad; have gad := below_new q2 (.cells #[.string ⟨#[45, 45]⟩] 9); have hnad : ∀ g, vad.ownBlock = some g → Value.ownBlock (.slice a16 PD.length c16) = some g ∨ q2.heap.size ≤ g := fun g h => (hnewad g h).imp id (fun h => by omega); have hbad := (hbcb.trans (gad.mono hbcb.size)).grown hgrad (by have := gad.size; omega) (fun g hg => (okbD.lt g hg).1); have oo6ca := (apcaD).kept (own_keep17 okbca gad) hgrad; have ap6ca := (apcaD).next okbca hnad; have oo6cb := (apcbD).kept (own_keep17 owb gad) hgrad; have ap6cb := (apcbD).next owb hnad; have nb6xa := box_next17 bkbxa.lt nbxaD hnad; have bb6xa := (bkbxa.next gad).kept hgrad (fun e => nbxaD e.symm); have nb6xb := box_next17 bxb.lt nbxbD hnad; have bb6xb := (bxb.next gad).kept hgrad (fun e => nbxbD e.symm); have hsrcad := strs_src17 (HV.out.below hbad).1; have hzad := hbad.size; obtain ⟨aad, cad, rfl⟩ := row_slice17 ownad) | (at_builtin; refine wpList_append_more rfl (.tmp 123) (.tmp 124) 22 9 rfl Tryd.underlying22 hsi hs0 hs1 hs2 rfl (by decide) (by decide) w.heap.size (v := .slice aad (PD.length + 1) cad) a l.length ca (strsV l) rfl rfl ownad hcap hsl hsrcad (strsV_one17 _) (by omega) hzad ?_; intro vbd ybd ownbd hgrbd hnewbd) | fail)
        have oo7ca := (ap6ca).kept (oo6ca) hgrbd
        have ap7ca := (ap6ca).next oo6ca hnewbd
        have oo7cb := (ap6cb).kept (oo6cb) hgrbd
        have ap7cb := (ap6cb).next oo6cb hnewbd
        have nb7xa := box_next17 bb6xa.lt nb6xa hnewbd
        have bb7xa := bb6xa.kept hgrbd (fun e => nb6xa e.symm)
        have nb7xb := box_next17 bb6xb.lt nb6xb hnewbd
        have bb7xb := bb6xb.kept hgrbd (fun e => nb6xb e.symm)
        have hbbd := hbad.grown hgrbd hzad (fun g hg => (ownad.lt g hg).1)
        have orowd : Row17 ybd w.heap.size vbd (PD ++ [45, 45] :: l) := by (show World.ownsRow _ _ _ _ _ _ _); simpa [strsV, Nat.add_assoc, Nat.add_comm 1] using ownbd
        refine (RD.out _ _ (own_strsC17 orowd) hbbd).mono ?_
        rintro e zd ⟨ud, rfl, oud, bzd⟩
        obtain ⟨aud, cud, rfl⟩ := own_sl17 oud
        have bwd := below_new zd (.cells (cmdC R.1 (.slice aud R.1.ops.length cud)) 26)
        have btd := bzd.trans (bwd.mono bzd.size)
        have bxd := Blk.new zd 26 (cmdC R.1 (.slice aud R.1.ops.length cud))
        have owd := own_keep17 oud bwd
        have hbcd := hbbd.trans (btd.mono hbbd.size)
        have okdca := own_keep17 oo7ca btd
        have okdcb := own_keep17 oo7cb btd
        have bkdxa := bb7xa.next btd
        have bkdxb := bb7xb.next btd
        have apcdca := (apart_row17 (own_keep17 oo7ca (Below.refl _ _)) (u := .slice aud R.1.ops.length cud) (fun g hg => (oud.lt g hg).1)).symm
        have apcdcb := (apart_row17 (own_keep17 oo7cb (Below.refl _ _)) (u := .slice aud R.1.ops.length cud) (fun g hg => (oud.lt g hg).1)).symm
        go_upto_region 25 with fail
        generalize hwd : zd.heap.size = XD at *
        generalize zd.alloc (.cells (cmdC R.1 (.slice aud R.1.ops.length cud)) 26) = q3 at *
        obtain ⟨⟨p0, p1, p2⟩, _⟩ := bkdxa.tri
        obtain ⟨⟨r0, r1, r2⟩, _⟩ := bkdxb.tri
        obtain ⟨⟨t0, t1, t2⟩, _⟩ := bxd.tri
        have sA := own_strs okdca
        have sB := own_strs okdcb
        have sD := own_strs owd
        have hB3 := hbcd
        have bXA := bkdxa
        have bXD := bxd
        have hS1 := aw_same R.1 _ _ _ sA sB
        have HS2 := Lib.hid (fun W (h : Below q3.heap.size q3 W) => aw_same R.1 _ _ W (sA.below h) (sD.below h))
        have hR2 := HR2.out
        have HSA := Lib.hid (fun W (h : Below q3.heap.size q3 W) => sA.below h)
        clear sA sB sD RA RB RD HR2 HA HLA
        (try clear apcdcb)
        (try clear apcdca)
        (try clear bkdxb)
        (try clear bkdxa)
        (try clear okdcb)
        (try clear okdca)
        (try clear hbcd)
        (try clear owd)
        (try clear bxd)
        (try clear btd)
        (try clear bwd)
        (try clear orowd)
        (try clear hbbd)
        (try clear bb7xb)
        (try clear nb7xb)
        (try clear bb7xa)
        (try clear nb7xa)
        (try clear ap7cb)
        (try clear oo7cb)
        (try clear ap7ca)
        (try clear oo7ca)
        (try clear hzad)
        (try clear hsrcad)
        (try clear bb6xb)
        (try clear nb6xb)
        (try clear bb6xa)
        (try clear nb6xa)
        (try clear ap6cb)
        (try clear oo6cb)
        (try clear ap6ca)
        (try clear oo6ca)
        (try clear hbad)
        (try clear hnad)
        (try clear gad)
        (try clear hz6)
        (try clear nbxbD)
        (try clear apcbca)
        (try clear apcbD)
        (try clear bkbxa)
        (try clear okbca)
        (try clear okbD)
        (try clear hbcb)
        (try clear owb)
        (try clear bxb)
        (try clear btb)
        (try clear bwb)
        (try clear orowb)
        (try clear hbbb)
        (try clear bb5xa)
        (try clear nb5xa)
        (try clear ap5ca)
        (try clear oo5ca)
        (try clear ap5D)
        (try clear oo5D)
        (try clear hzab)
        (try clear hsrcab)
        (try clear bb4xa)
        (try clear nb4xa)
        (try clear ap4ca)
        (try clear oo4ca)
        (try clear ap4D)
        (try clear oo4D)
        (try clear hbab)
        (try clear hnab)
        (try clear gab)
        (try clear hz4)
        (try clear nbxaD)
        (try clear nbxaB)
        (try clear apcaD)
        (try clear apcaB)
        (try clear okaD)
        (try clear okaB)
        (try clear hbca)
        (try clear owa)
        (try clear bxa)
        (try clear bta)
        (try clear bwa)
        (try clear orowa)
        (try clear hbba)
        (try clear ap3D)
        (try clear oo3D)
        (try clear ap3B)
        (try clear oo3B)
        (try clear hzaa)
        (try clear hsrcaa)
        (try clear ap2D)
        (try clear oo2D)
        (try clear ap2B)
        (try clear oo2B)
        (try clear hbaa)
        (try clear hnaa)
        (try clear gaa)
        (try clear hz2)
        (try clear apDB0)
        (try clear apDA0)
        (try clear apBA0)
        (try clear hcap)
        (try clear hsl)
        (try clear hPBl)
        (try clear hb1)
        (try clear oB1)
        (try clear apD1)
        (try clear apA1)
        (try clear oD1)
        (try clear oA1)
        (try clear oB')
        (try clear hcz)
        (try clear hWs)
        (try clear hWn)
        (try clear hWl)
        (try clear hPDl)
        (try clear hPAl)
        (try clear hgraa)
        (try clear hnewaa)
        (try clear ownaa)
        (try clear ownba)
        (try clear hgrba)
        (try clear hnewba)
        (try clear oua)
        (try clear bza)
        (try clear hgrab)
        (try clear hnewab)
        (try clear ownab)
        (try clear ownbb)
        (try clear hgrbb)
        (try clear hnewbb)
        (try clear oub)
        (try clear bzb)
        (try clear hgrad)
        (try clear hnewad)
        (try clear ownad)
        (try clear ownbd)
        (try clear hgrbd)
        (try clear hnewbd)
        (try clear oud)
        (try clear bzd)
        (try clear apBD)
        (try clear apAD)
        (try clear apWA)
        (try clear apWB)
        (try clear apWD)
        (try clear apAB)
        (try clear hwa)
        (try clear hwb)
        (try clear hwd)
        (try clear hGA)
        (try clear hK)
        (try clear hk)
        (try clear hlt)
        rcases hR2 with ⟨hne, -⟩ | hR
        · have hT : R.2.isEmpty = false := by simpa using hne
          clear hne
          go_wp2_with fail
          refine hS1.mono ?_
          rintro e q4 ⟨rfl, b4⟩
          have bXA4 := bXA.next b4
          have bXD4 := bXD.next b4
          clear p0 p1 p2 r0 r1 r2 t0 t1 t2
          obtain ⟨⟨p0, p1, p2⟩, _⟩ := bXA4.tri
          obtain ⟨⟨t0, t1, t2⟩, _⟩ := bXD4.tri
          go_wp2_with fail
          refine (HS2.out _ b4).mono ?_
          rintro e q5 ⟨rfl, b5⟩
          have b45 := b4.trans (b5.mono b4.size)
          go_wp2
          go_ret
          exact ⟨rfl, hB3.trans (b45.mono hB3.size)⟩
        · subst hR
          dsimp only at *
          have hS3 := fun W (h : Below q3.heap.size q3 W) => Same_any l l _ (.slice a l.length ca) W (HSA.out W h) (HV.out.below (hB3.trans (h.mono hB3.size))).1
          rw [show decide (l = l) = true from decide_eq_true rfl] at hS3
          have HS3 := Lib.hid hS3
          clear hS3
          go_wp2_with fail
          refine hS1.mono ?_
          rintro e q4 ⟨rfl, b4⟩
          have bXA4 := bXA.next b4
          have bXD4 := bXD.next b4
          clear p0 p1 p2 r0 r1 r2 t0 t1 t2
          obtain ⟨⟨p0, p1, p2⟩, _⟩ := bXA4.tri
          obtain ⟨⟨t0, t1, t2⟩, _⟩ := bXD4.tri
          go_wp2_with fail
          refine (HS2.out _ b4).mono ?_
          rintro e q5 ⟨rfl, b5⟩
          have b45 := b4.trans (b5.mono b4.size)
          clear p0 p1 p2 t0 t1 t2
          obtain ⟨⟨p0, p1, p2⟩, _⟩ := (bXA4.next b5).tri
          go_wp2_with fail
          refine (HS3.out _ b45).mono ?_
          rintro e q6 ⟨rfl, b6⟩
          have b46 := b45.trans (b6.mono b45.size)
          clear p0 p1 p2
          obtain ⟨⟨p0, p1, p2⟩, _⟩ := ((bXA4.next b5).next b6).tri
          go_wp2
          go_ret
          exact ⟨rfl, hB3.trans (b46.mono hB3.size)⟩

namespace LArgsOrder
set_option maxRecDepth 100000 in
theorem lifted (os : Os) (started : os.Started) (H : Type) (enc : TypeId × Value → H) :
    ReturnsInHanded {} Tryd.checked os 5 .any (fun w args => (Rows.argsOrderSpec.pre enc Tryd.prog Tryd.f5 [] false w args ∧ laidMetH Tryd.prog Rows.argsOrderRow.laid w) ∧ sizedMet enc Tryd.prog Tryd.f5 (OpenSpec.ofChange Rows.argsOrderSpec) false w args) (Rows.argsOrderSpec.post enc Tryd.prog Tryd.f5 false true false false) := by
  refine returnsInHanded_of_change_and (C := Tryd.checked) (X := fun w _ => laidMetH Tryd.prog Rows.argsOrderRow.laid w) (fun _ _ _ hh h => h.of_heap hh) (by kernel_rfl) started (by kernel_rfl) Tryd.func5
    (ChangeSpec.witness_shaped (enc := enc) (C := Tryd.checked) (os := os) (X := fun w _ => laidMetH Tryd.prog Rows.argsOrderRow.laid w) false (World.laidAll Tryd.prog os Rows.argsOrderRow.laid) #[.int .u8 0, .slice none 0 0, .slice none 0 0] 8 (World.laidAll_os _ _ _)
      (World.shaped_of_ZipB (by kernel_rfl) (by kernel_rfl)) (by kernel_rfl) (by kernel_rfl) (by kernel_rfl)
      (by rw [MakeChecks.laidMetH_plain _ _ _ (by kernel_rfl)]; exact laidMet_laidAll _ (by kernel_rfl) (by kernel_rfl))) ?_
  intro W base args ds gs before hval0 hW hcnd _ hLaid _
  have hL := of_laid hLaid
  clear hLaid
  have hval : ∀ (j : Nat) t v, Tryd.f5.params[j]? = some t → args[j]? = some v → Value.okWide Tryd.prog W .any base t v := hval0
  have hW' := hW
  obtain ⟨p, q, hA0, hV, rfl, hfz, hnd⟩ := hW
  have hA : DataW.TrodAll enc Tryd.prog W 0 (fun _ => true) true Tryd.f5.params.toList args.toList ds p := hA0
  rw [Tryd.params5] at hA hval
  obtain ⟨v0, vs0, d0, ds0, p0, q0, hargs, rfl, rfl, k0, r0⟩ := trodAll_cons hA
  obtain ⟨v1, vs1, d1, ds1, p1, q1, rfl, rfl, rfl, k1, r1⟩ := trodAll_cons r0
  obtain ⟨v2, vs2, d2, ds2, p2, q2, rfl, rfl, rfl, k2, r2⟩ := trodAll_cons r1
  obtain ⟨rfl, rfl, rfl⟩ := trodAll_nil r2
  obtain rfl : args = #[v0, v1, v2] := by cases args; simp_all
  obtain ⟨rfl, rfl⟩ := trodVars_none hV
  have ok0 := hval 0 5 v0 rfl rfl
  have ok1 := hval 1 34 v1 rfl rfl
  have ok2 := hval 2 22 v2 rfl rfl
  have lt0 : ∀ x ∈ p0, x.block < W.heap.size := by obtain ⟨m, hm⟩ := k0; exact DataW.trod_lt m _ _ _ hm
  have lt1 : ∀ x ∈ p1, x.block < W.heap.size := by obtain ⟨m, hm⟩ := k1; exact DataW.trod_lt m _ _ _ hm
  have lt2 : ∀ x ∈ p2, x.block < W.heap.size := by obtain ⟨m, hm⟩ := k2; exact DataW.trod_lt m _ _ _ hm
  have C : Calls Tryd.prog 5 #[v0, v1, v2] W fun e w' => e = .returned (.bool true) ∧ Below W.heap.size W w' := by
    clear hA0 hval0 hval hW' hcnd hV hfz hnd
    obtain ⟨x, rfl, rfl, rfl, hx⟩ := open_int Tryd.underlying5 ok0 k0
    have hb := bounds_u8 hx
    obtain ⟨y, rfl⟩ := Int.eq_ofNat_of_zero_le hb.1
    obtain ⟨ds, hd⟩ := byts_of_trod ok1 k1
    obtain ⟨l, hl⟩ := strsC_of_trod ok2 k2
    exact lawOrder17 y ds l _ _ W (by omega) hd hl hL
  refine C.mono fun e W' ⟨he, bel⟩ => ?_
  subst he
  exact ⟨_, rfl, _, _, _, [], _, [], hW', trodAll_mk1 (shut_bool Tryd.underlying4 _), (trodAll_cons_mk (Below.trod laidOut (by kernel_rfl) (of_decide_eq_true (by kernel_rfl)) k0 bel lt0) (trodAll_cons_mk (Below.trod laidOut (by kernel_rfl) (of_decide_eq_true (by kernel_rfl)) k1 bel lt1) (trodAll_cons_mk (Below.trod laidOut (by kernel_rfl) (of_decide_eq_true (by kernel_rfl)) k2 bel lt2) trodAll_mk0))), rfl, bel.frame _, fun h => by cases h⟩
theorem bare : Rows.ArgsOrderSaid :=
  OpenClaim.holds_of_wide 5 Tryd.f5 rfl rfl rfl rfl rfl rfl rfl ⟨rfl, rfl, rfl, rfl, rfl⟩ rfl rfl rfl rfl rfl (by kernel_rfl) Tryd.func5 (by kernel_rfl)
    (of_decide_eq_true (by kernel_rfl)) (by unfold Func.isWrapper; first | (rw [if_pos (by decide +kernel)]; kernel_rfl) | (rw [if_neg (by decide +kernel)]; exact ⟨rfl, rfl⟩))
    (fun os started H enc _ => lifted os started H enc)
theorem proved : Rows.ArgsOrderCardSaid :=
  Claim7.holds_tied_plain_at .later [] Rows.argsOrderCard.laidKinds true Rows.argsOrderCard.stood.harness false
    bare (fun _ h => by cases h) (by kernel_rfl) (fun _ h => by cases h) argsOrder_row_tie rfl ⟨rfl, rfl⟩ (by kernel_rfl) rfl
    (fun f fn hf hfn => by
      obtain rfl : f = 5 := Option.some.inj ((show Tryd.prog.funcNamed "drayman/draymanlaw17.ArgsOrder" = some 5 by kernel_rfl).symm.trans hf) |>.symm
      obtain rfl : fn = Tryd.f5 := (Option.some.inj (Tryd.func5.symm.trans hfn)).symm
      exact ⟨by kernel_rfl, fun j t ht => by
        rw [Tryd.params5] at ht
        have hm : t ∈ [5, 34, 22] := by simpa using Array.mem_of_getElem? ht
        have hall : ([5, 34, 22].all fun u => !Tryd.prog.wantsStandIn u) = true := by kernel_rfl
        exact (show Tryd.prog.wantsStandIn t = false by simpa using List.all_eq_true.1 hall t hm)⟩)
    (by kernel_rfl)
#print axioms proved
end LArgsOrder
end Go.Proofs.YtboceckeebhfoaaDoor
