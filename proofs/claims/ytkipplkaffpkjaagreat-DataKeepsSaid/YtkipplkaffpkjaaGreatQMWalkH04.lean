/- Texts put together: Drop12, Name12, Data13, Pure11, Pure13, RangeAid, WalkG03, WalkH03, WalkA04, WalkI03, CopyN, HeldAid, Pure12, Short10, Bound11, Pure12b, Pure13b, Leads09, Pure10c, Pure13c, WalkH04. -/
import Derived.Test.YtkipplkaffpkjaaGreatQMList11
import Derived.RangeFuncNested
import Derived.RangeFuncBox
import Derived.RangeFuncBound
import Derived.RangeFuncCalls
import Derived.RangeFuncLeaves
import Derived.Shelf.Abstract
import Derived.Shelf.RegionOpen
import Derived.WalkKit
import Derived.OwnWalkIn
import Derived.TacticsInMore
import Derived.LoopNIn
import Derived.LoopIn
import Derived.Maps.AppendAt
import Derived.Test.YtkipplkaffpkjaaGreatQMPure09
import Derived.Test.YtkipplkaffpkjaaGreatChecked
import Derived.Deep.LoopGhost
import Derived.BigQuiet
import Derived.StillTailTactics
import Derived.Lib.Strings
import Derived.Laws.CopyOwn
import Derived.Below
import Derived.Deep.RegionHeld3
import Derived.Laws.StructEq
set_option linter.unusedVariables false
set_option linter.unusedSimpArgs false
/- An entry taken away from a sound file system, an entry given: it stays sound. No program's function. -/
set_option linter.unusedVariables false
set_option linter.unusedSimpArgs false
namespace Go.Proofs.YtkipplkaffpkjaaGreat

def lessD (x : Nd) (n : List UInt8) (ev : Go.Value) : Nd := { x with ents := withoutB x.ents n, ev := ev }
def linkX (x : Nd) (k : Int) : Nd := { x with links := k }
def unL (l : List Nd) (d : Int) (n : List UInt8) (i : Int) (ev : Go.Value) : List Nd :=
  if (getN l i).links - 1 = 0 then dropN (setN l (lessD (getN l d) n ev)) i else setN (setN l (lessD (getN l d) n ev)) (linkX (getN l i) ((getN l i).links - 1))
/-- What may be taken away. -/
structure Gone (l : List Nd) (d : Int) (n : List UInt8) (i : Int) : Prop where
  ent : (n, i) ∈ (getN l d).ents
  bare : (getN l i).ents = []
theorem less_cnt {x : Nd} {n : List UInt8} {i : Int} {ev : Go.Value} (hs : sortP x.ents) (h : (n, i) ∈ x.ents) (j : Int) : cntE j (lessD x n ev) + (if i = j then 1 else 0) = cntE j x := by
  unfold cntE
  have := ((without_perm hs h).map (·.2)).count_eq j
  rw [this, show (lessD x n ev).ents = withoutB x.ents n from rfl, List.map_cons, List.count_cons]
  by_cases hij : i = j
  · rw [if_pos hij, if_pos (by simpa using hij)]
  · rw [if_neg hij, if_neg (by simpa using hij)]
section
variable {mi mb nx : Int} {l : List Nd} {d : Int} {n : List UInt8} {i : Int} {ev : Go.Value}
theorem gone_ne (hg : Gone l d n i) : i ≠ d := by
  intro e
  have h1 := hg.ent
  rw [← e, hg.bare] at h1; cases h1
theorem gone_dir (h : SoundP mi mb nx l) (hg : Gone l d n i) : isDir l d = true := by
  have := ent_dir h.tree hg.ent
  exact dir_mk this.2 this.1
theorem gone_has (h : SoundP mi mb nx l) (hg : Gone l d n i) : hasN l i = true := h.there _ (get_mem (ents_has hg.ent)).1 _ hg.ent
theorem less_ino (hd : hasN l d = true) : (lessD (getN l d) n ev).ino = d := (get_mem hd).2
theorem link_ino (hi : hasN l i = true) (k : Int) : (linkX (getN l i) k).ino = i := (get_mem hi).2
theorem un_rise (h : SoundP mi mb nx l) : riseP (unL l d n i ev) := by
  unfold unL
  split
  · exact drop_rise _ (set_rise _ h.rise)
  · exact set_rise _ (set_rise _ h.rise)
theorem un_get (h : SoundP mi mb nx l) (hg : Gone l d n i) (k : Int) : getN (unL l d n i ev) k = if k = i then (if (getN l i).links - 1 = 0 then zeroN else linkX (getN l i) ((getN l i).links - 1)) else if k = d then lessD (getN l d) n ev else getN l k := by
  have hd := (dir_parts (gone_dir h hg)).1
  have hi := gone_has h hg
  unfold unL
  by_cases hl : (getN l i).links - 1 = 0
  · rw [if_pos hl, if_pos hl, get_drop (set_rise _ h.rise), get_set h.rise, less_ino hd]
  · rw [if_neg hl, if_neg hl, get_set (set_rise _ h.rise), get_set h.rise, less_ino hd, link_ino hi]
theorem un_has (h : SoundP mi mb nx l) (hg : Gone l d n i) (k : Int) : hasN (unL l d n i ev) k = if k = i then decide ((getN l i).links - 1 ≠ 0) else hasN l k := by
  have hd := (dir_parts (gone_dir h hg)).1
  have hi := gone_has h hg
  unfold unL
  by_cases hl : (getN l i).links - 1 = 0
  · rw [if_pos hl, has_drop, has_set, less_ino hd]
    by_cases hk : k = i
    · rw [if_pos hk, hk]; simp [hl]
    · rw [if_neg hk, decide_eq_true hk, Bool.true_and]
      by_cases hkd : k = d
      · rw [hkd, hd]; simp
      · rw [decide_eq_false hkd, Bool.false_or]
  · rw [if_neg hl, has_set, has_set, less_ino hd, link_ino hi]
    by_cases hk : k = i
    · rw [if_pos hk, hk]; simp [hl]
    · rw [if_neg hk, decide_eq_false hk, Bool.false_or]
      by_cases hkd : k = d
      · rw [hkd, hd]; simp
      · rw [decide_eq_false hkd, Bool.false_or]
theorem un_names (h : SoundP mi mb nx l) (hg : Gone l d n i) (j : Int) : namesN (unL l d n i ev) j + (if i = j then 1 else 0) = namesN l j := by
  have hd := (dir_parts (gone_dir h hg)).1
  have hi := gone_has h hg
  have hne := gone_ne hg
  have h2 := names_set h.rise (lessD (getN l d) n ev) j
  have h3 := less_cnt (ev := ev) (dir_sort h d) hg.ent j
  rw [less_ino hd] at h2
  have h4 : cntE j (getN l i) = 0 := by unfold cntE; rw [hg.bare]; rfl
  have h5 : getN (setN l (lessD (getN l d) n ev)) i = getN l i := by rw [get_set h.rise, less_ino hd, if_neg hne]
  unfold unL
  split
  · have h1 := names_drop (set_rise (lessD (getN l d) n ev) h.rise) i j
    rw [h5] at h1
    omega
  · have h1 := names_set (set_rise (lessD (getN l d) n ev) h.rise) (linkX (getN l i) ((getN l i).links - 1)) j
    rw [link_ino hi, h5, show cntE j (linkX (getN l i) ((getN l i).links - 1)) = cntE j (getN l i) from rfl] at h1
    omega
theorem un_mem (h : SoundP mi mb nx l) (hg : Gone l d n i) {y : Nd} (hy : y ∈ unL l d n i ev) : (y = linkX (getN l i) ((getN l i).links - 1) ∧ (getN l i).links - 1 ≠ 0) ∨ y = lessD (getN l d) n ev ∨ (y ∈ l ∧ y.ino ≠ d ∧ y.ino ≠ i) := by
  have hd := (dir_parts (gone_dir h hg)).1
  have hi := gone_has h hg
  unfold unL at hy
  split at hy
  · obtain ⟨hy, h1⟩ := mem_drop.1 hy
    rcases mem_set.1 hy with e | ⟨hy, h2⟩
    · exact .inr (.inl e)
    · rw [less_ino hd] at h2; exact .inr (.inr ⟨hy, h2, h1⟩)
  · rename_i hl
    rcases mem_set.1 hy with e | ⟨hy, h1⟩
    · exact .inl ⟨e, hl⟩
    · rw [link_ino hi] at h1
      rcases mem_set.1 hy with e | ⟨hy, h2⟩
      · exact .inr (.inl e)
      · rw [less_ino hd] at h2; exact .inr (.inr ⟨hy, h2, h1⟩)
theorem gone_one (h : SoundP mi mb nx l) (hg : Gone l d n i) : i ≠ 1 := by
  intro e
  have := names_pos hg.ent
  rw [e, h.noRoot] at this; omega
theorem un_keep (h : SoundP mi mb nx l) (hg : Gone l d n i) {k : Int} {e : Ent} (he : e ∈ (getN l k).ents) (hne : e.2 ≠ i) : e ∈ (getN (unL l d n i ev) k).ents := by
  rw [un_get h hg, if_neg (by intro e2; rw [e2, hg.bare] at he; cases he)]
  split
  · rename_i e2
    subst e2
    refine mem_without.2 ⟨he, fun e3 => hne ?_⟩
    have h1 := (num_mem (ents_pair h.tree k) he).1
    have h2 := (num_mem (ents_pair h.tree k) hg.ent).1
    rw [e3] at h1
    exact h1.symm.trans h2
  · exact he
theorem un_reach (h : SoundP mi mb nx l) (hg : Gone l d n i) {k : Int} (hk : Reach l k) : k ≠ i → Reach (unL l d n i ev) k := by
  induction hk with
  | root => intro _; exact .root
  | step _ he ih =>
    intro hne
    exact .step (ih (by intro e; rw [e, hg.bare] at he; cases he)) (un_keep h hg he hne)
theorem un_len (h : SoundP mi mb nx l) (hg : Gone l d n i) : (unL l d n i ev).length ≤ l.length := by
  have hd := (dir_parts (gone_dir h hg)).1
  have hi := gone_has h hg
  have h0 := len_set_has h.rise (lessD (getN l d) n ev) (by rw [less_ino hd]; exact hd)
  have h5 : hasN (setN l (lessD (getN l d) n ev)) i = true := by rw [has_set, hi]; simp
  unfold unL
  split
  · have := len_drop_has (set_rise (lessD (getN l d) n ev) h.rise) i h5; omega
  · rw [len_set_has (set_rise _ h.rise) _ (by rw [link_ino hi]; exact h5), h0]; omega
theorem un_bytes (h : SoundP mi mb nx l) (hg : Gone l d n i) : bytesN (unL l d n i ev) ≤ bytesN l := by
  have hd := (dir_parts (gone_dir h hg)).1
  have hi := gone_has h hg
  have a2 := bytes_set h.rise (lessD (getN l d) n ev)
  rw [less_ino hd] at a2
  have a3 : costN (lessD (getN l d) n ev) = costN (getN l d) := rfl
  have h5 : getN (setN l (lessD (getN l d) n ev)) i = getN l i := by rw [get_set h.rise, less_ino hd, if_neg (gone_ne hg)]
  unfold unL
  split
  · have := bytes_drop (set_rise (lessD (getN l d) n ev) h.rise) i; omega
  · have := bytes_set (set_rise (lessD (getN l d) n ev) h.rise) (linkX (getN l i) ((getN l i).links - 1))
    rw [link_ino hi, h5, show costN (linkX (getN l i) ((getN l i).links - 1)) = costN (getN l i) from rfl] at this
    omega
theorem un_ents (h : SoundP mi mb nx l) (hg : Gone l d n i) : entsN (unL l d n i ev) + 1 = entsN l := by
  have hd := (dir_parts (gone_dir h hg)).1
  have hi := gone_has h hg
  have a2 := ents_set h.rise (lessD (getN l d) n ev)
  rw [less_ino hd] at a2
  have a3 : (lessD (getN l d) n ev).ents.length + 1 = (getN l d).ents.length := by
    have := (without_perm (dir_sort h d) hg.ent).length_eq
    rw [this]; rfl
  have h5 : getN (setN l (lessD (getN l d) n ev)) i = getN l i := by rw [get_set h.rise, less_ino hd, if_neg (gone_ne hg)]
  have a4 : (getN l i).ents.length = 0 := by rw [hg.bare]; rfl
  unfold unL
  split
  · have := ents_drop (set_rise (lessD (getN l d) n ev) h.rise) i
    rw [h5] at this
    omega
  · have := ents_set (set_rise (lessD (getN l d) n ev) h.rise) (linkX (getN l i) ((getN l i).links - 1))
    rw [link_ino hi, h5, show (linkX (getN l i) ((getN l i).links - 1)).ents.length = (getN l i).ents.length from rfl] at this
    omega
theorem un_sound (h : SoundP mi mb nx l) (hg : Gone l d n i) : SoundP mi mb nx (unL l d n i ev) := by
  have hdd := gone_dir h hg
  obtain ⟨hd, hk⟩ := dir_parts hdd
  have hi := gone_has h hg
  have hne := gone_ne hg
  have hi1 := gone_one h hg
  have hdm := get_mem hd
  have him := get_mem hi
  have hnm := fun j => un_names (ev := ev) h hg j
  have hget := fun k => un_get (ev := ev) h hg k
  have hhas := fun k => un_has (ev := ev) h hg k
  have hnmo : ∀ j, j ≠ i → namesN (unL l d n i ev) j = namesN l j := fun j hj => by
    have := hnm j
    rw [if_neg (fun e => hj e.symm)] at this; omega
  have hli := h.links _ him.1
  rw [him.2] at hli
  have hlast : (getN l i).links - 1 = 0 → namesN (unL l d n i ev) i = 0 := fun h0 => by
    have := hnm i
    rw [if_pos rfl] at this; omega
  have hthere : ∀ y ∈ unL l d n i ev, ∀ e ∈ y.ents, e ∈ (getN (unL l d n i ev) y.ino).ents ∧ hasN l e.2 = true := by
    intro y hy e he
    refine ⟨by rw [(getN_of (un_rise h) hy).1]; exact he, ?_⟩
    rcases un_mem h hg hy with ⟨rfl, _⟩ | rfl | hy
    · have : e ∈ (getN l i).ents := he
      rw [hg.bare] at this; cases this
    · exact h.there _ hdm.1 e (mem_without.1 he).1
    · exact h.there _ hy.1 e he
  have hdi : ¬ (getN l d).ino = i := by rw [hdm.2]; exact fun e => hne e.symm
  refine ⟨h.lim, ?_, un_rise h, by rw [hhas, if_neg (fun e => hi1 e.symm)]; exact h.root, ?_, ?_, ?_, ?_, by rw [hnmo 1 (fun e => hi1 e.symm)]; exact h.noRoot, ?_, ?_, ?_, ?_, ?_⟩
  · intro y hy
    rcases un_mem h hg hy with ⟨rfl, _⟩ | rfl | hy
    · exact h.ino (getN l i) him.1
    · exact h.ino (getN l d) hdm.1
    · exact h.ino _ hy.1
  · rw [hget, if_neg (fun e => hi1 e.symm)]
    split
    · exact hk
    · exact h.rootDir
  · intro y hy
    rcases un_mem h hg hy with ⟨rfl, _⟩ | rfl | hy
    · exact h.kind (getN l i) him.1
    · have := h.kind _ hdm.1
      unfold secondX at this ⊢
      rw [if_pos hk, Bool.and_eq_true] at this
      rw [if_pos (show (lessD (getN l d) n ev).kind = 2 from hk), Bool.and_eq_true]
      exact ⟨this.1, (rightB_iff _).2 (without_right n ((rightB_iff _).1 this.2))⟩
    · exact h.kind y hy.1
  · intro y hy e he
    obtain ⟨h1, h2⟩ := hthere y hy e he
    rw [hhas]
    split
    · rename_i e2
      rw [decide_eq_true_eq]
      intro h0
      have := names_pos h1
      rw [e2, hlast h0] at this; omega
    · exact h2
  · intro y hy
    rcases un_mem h hg hy with ⟨rfl, _⟩ | rfl | hy
    · have := hnm i
      rw [if_pos rfl] at this
      show (getN l i).links - 1 = (namesN _ (getN l i).ino : Int)
      rw [him.2, hli]; omega
    · show (getN l d).links = (namesN _ (getN l d).ino : Int)
      rw [hnmo _ hdi]; exact h.links _ hdm.1
    · rw [hnmo _ hy.2.2]; exact h.links _ hy.1
  · rw [hget, if_neg (fun e => hi1 e.symm)]
    split
    · rename_i e
      show (getN l d).parent = 1
      rw [← e]; exact h.rootPar
    · exact h.rootPar
  · intro y hy hy1
    rcases un_mem h hg hy with ⟨rfl, h0⟩ | rfl | hy
    · have := hnm i
      rw [if_pos rfl] at this
      show 1 ≤ namesN _ (getN l i).ino
      rw [him.2]; omega
    · show 1 ≤ namesN _ (getN l d).ino
      rw [hnmo _ hdi]; exact h.named _ hdm.1 hy1
    · rw [hnmo _ hy.2.2]; exact h.named _ hy.1 hy1
  · intro y hy hky hy1
    rcases un_mem h hg hy with ⟨rfl, h0⟩ | rfl | hy
    · exfalso
      have := (h.once _ him.1 hky hy1).1
      rw [him.2] at this
      omega
    · obtain ⟨h7, m, hm⟩ := h.once _ hdm.1 hk hy1
      show namesN _ (getN l d).ino = 1 ∧ ∃ m, (m, (getN l d).ino) ∈ (getN _ (getN l d).parent).ents
      rw [hnmo _ hdi]
      exact ⟨h7, m, un_keep h hg hm hdi⟩
    · obtain ⟨h7, m, hm⟩ := h.once _ hy.1 hky hy1
      rw [hnmo _ hy.2.2]
      exact ⟨h7, m, un_keep h hg hm hy.2.2⟩
  · intro y hy
    rcases un_mem h hg hy with ⟨rfl, h0⟩ | rfl | hy
    · show Reach _ (getN l i).ino
      rw [him.2]
      have := hnm i
      rw [if_pos rfl] at this
      obtain ⟨k, m, hkm⟩ := named_by (un_rise h) (show 0 < namesN (unL l d n i ev) i by omega)
      have hki : k ≠ i := by
        intro e
        rw [hget, if_pos e, if_neg h0] at hkm
        have : ((m, i) : Ent) ∈ (getN l i).ents := hkm
        rw [hg.bare] at this; cases this
      have hkh := ents_has hkm
      rw [hhas, if_neg hki] at hkh
      have hr := h.reach _ (get_mem hkh).1
      rw [(get_mem hkh).2] at hr
      exact .step (un_reach h hg hr hki) hkm
    · exact un_reach h hg (h.reach (getN l d) hdm.1) hdi
    · exact un_reach h hg (h.reach _ hy.1) hy.2.2
  · have a1 := un_len (ev := ev) h hg
    have a2 := un_bytes (ev := ev) h hg
    have := h.fits
    unfold fitsB at this ⊢
    simp only [Bool.and_eq_true, decide_eq_true_eq] at this ⊢
    omega
theorem un_list (h : SoundP mi mb nx l) (hg : Gone l d n i) : (listN (unL l d n i ev)).length + 1 = (listN l).length := by
  rw [list_exact h.tree, list_exact (un_sound (ev := ev) h hg).tree]
  have := un_ents (ev := ev) h hg
  omega
end
end Go.Proofs.YtkipplkaffpkjaaGreat

/- One name more for what is no directory: the file system stays sound; taken away again, it is as it was. No program's function. -/
set_option linter.unusedVariables false
set_option linter.unusedSimpArgs false
namespace Go.Proofs.YtkipplkaffpkjaaGreat

/-- Rising tables whose inodes are alike, number by number, are alike. -/
theorem key_ext_rise : ∀ {a b : List Nd}, riseP a → riseP b → (∀ k, hasN a k = hasN b k) → (∀ k, hasN a k = true → (getN a k).key = (getN b k).key) → a.map Nd.key = b.map Nd.key
  | [], [], _, _, _, _ => rfl
  | [], y :: b, _, _, h, _ => by have := h y.ino; simp [hasN] at this
  | x :: a, [], _, _, h, _ => by have := h x.ino; simp [hasN] at this
  | x :: a, y :: b, ha, hb, h, hk => by
    obtain ⟨ha1, ha2⟩ := List.pairwise_cons.1 ha
    obtain ⟨hb1, hb2⟩ := List.pairwise_cons.1 hb
    have hc : ∀ {z : Nd} {l : List Nd} {k : Int}, hasN (z :: l) k = (z.ino == k || hasN l k) := by intro z l k; simp [hasN]
    have e : x.ino = y.ino := by
      have h1 := h x.ino
      have h2 := h y.ino
      rw [hc, hc] at h1 h2
      simp only [beq_self_eq_true, Bool.true_or, Bool.or_true] at h1 h2
      rcases Int.lt_trichotomy x.ino y.ino with hlt | heq | hgt
      · have hb3 : hasN b x.ino = true := by
          have : (y.ino == x.ino) = false := by simp; omega
          rw [this, Bool.false_or] at h1; exact h1.symm
        obtain ⟨z, hz, hz2⟩ := has_iff.1 hb3
        have := hb1 z hz; omega
      · exact heq
      · have ha3 : hasN a y.ino = true := by
          have : (x.ino == y.ino) = false := by simp; omega
          rw [this, Bool.false_or] at h2; exact h2
        obtain ⟨z, hz, hz2⟩ := has_iff.1 ha3
        have := ha1 z hz; omega
    have hg : ∀ {z : Nd} {l : List Nd} {k : Int}, getN (z :: l) k = if z.ino = k then z else getN l k := by
      intro z l k
      unfold getN
      by_cases hz : z.ino = k
      · rw [List.find?_cons_of_pos (by simpa using hz), if_pos hz]; rfl
      · rw [List.find?_cons_of_neg (by simpa using hz), if_neg hz]
    have hxy : x.key = y.key := by
      have := hk x.ino (by rw [hc]; simp)
      rwa [hg, hg, if_pos rfl, if_pos e.symm] at this
    rw [List.map_cons, List.map_cons, hxy]
    congr 1
    have hax : ∀ k, hasN a k = true → k ≠ x.ino := by
      rintro k h3 rfl
      obtain ⟨z, hz, hz2⟩ := has_iff.1 h3
      have := ha1 z hz; omega
    have hbx : ∀ k, hasN b k = true → k ≠ y.ino := by
      rintro k h3 rfl
      obtain ⟨z, hz, hz2⟩ := has_iff.1 h3
      have := hb1 z hz; omega
    refine key_ext_rise ha2 hb2 (fun k => ?_) (fun k h3 => ?_)
    · refine bool_eq ⟨fun h3 => ?_, fun h3 => ?_⟩
      · have h4 := h k
        rw [hc, hc, h3, Bool.or_true] at h4
        have : (y.ino == k) = false := by have := hax k h3; simp; omega
        rw [this, Bool.false_or] at h4; exact h4.symm
      · have h4 := h k
        rw [hc, hc, h3, Bool.or_true] at h4
        have : (x.ino == k) = false := by have := hbx k h3; simp; omega
        rw [this, Bool.false_or] at h4; exact h4
    · have h4 := hk k (by rw [hc, h3, Bool.or_true])
      have := hax k h3
      rwa [hg, hg, if_neg (fun e2 => this e2.symm), if_neg (by omega)] at h4

def naL (l : List Nd) (d : Int) (n : List UInt8) (i : Int) (ev : Go.Value) : List Nd := setN (setN l (moreD (getN l d) n i ev)) (linkX (getN l i) ((getN l i).links + 1))
structure Given (l : List Nd) (d : Int) (n : List UInt8) (i : Int) : Prop where
  dir : isDir l d = true
  gone : hasB (getN l d).ents n = false
  may : mayB n = true
  has : hasN l i = true
  leaf : (getN l i).kind ≠ 2
section
variable {mi mb nx : Int} {l : List Nd} {d : Int} {n : List UInt8} {i : Int} {ev : Go.Value}
theorem leaf_bare (h : SoundP mi mb nx l) {i : Int} (hi : hasN l i = true) (hk : (getN l i).kind ≠ 2) : (getN l i).ents = [] := h.tree.files _ (get_mem hi).1 hk
theorem given_ne (hg : Given l d n i) : i ≠ d := by
  intro e
  have := hg.leaf
  rw [e] at this
  exact this (dir_parts hg.dir).2
theorem na_rise (h : SoundP mi mb nx l) : riseP (naL l d n i ev) := set_rise _ (set_rise _ h.rise)
theorem na_get (h : SoundP mi mb nx l) (hg : Given l d n i) (k : Int) : getN (naL l d n i ev) k = if k = i then linkX (getN l i) ((getN l i).links + 1) else if k = d then moreD (getN l d) n i ev else getN l k := by
  have hd := (dir_parts hg.dir).1
  unfold naL
  rw [get_set (set_rise _ h.rise), get_set h.rise, more_ino l hd, link_ino hg.has]
theorem na_has (h : SoundP mi mb nx l) (hg : Given l d n i) (k : Int) : hasN (naL l d n i ev) k = hasN l k := by
  have hd := (dir_parts hg.dir).1
  unfold naL
  rw [has_set, has_set, more_ino l hd, link_ino hg.has]
  by_cases hk : k = i
  · rw [hk, hg.has]; simp
  · rw [decide_eq_false hk, Bool.false_or]
    by_cases hkd : k = d
    · rw [hkd, hd]; simp
    · rw [decide_eq_false hkd, Bool.false_or]
theorem na_names (h : SoundP mi mb nx l) (hg : Given l d n i) (j : Int) : namesN (naL l d n i ev) j = namesN l j + if i = j then 1 else 0 := by
  have hd := (dir_parts hg.dir).1
  have h2 := names_set h.rise (moreD (getN l d) n i ev) j
  rw [more_ino l hd, more_cnt (dir_sort h d) hg.gone] at h2
  have h5 : getN (setN l (moreD (getN l d) n i ev)) i = getN l i := by rw [get_set h.rise, more_ino l hd, if_neg (given_ne hg)]
  have h1 := names_set (set_rise (moreD (getN l d) n i ev) h.rise) (linkX (getN l i) ((getN l i).links + 1)) j
  rw [link_ino hg.has, h5, show cntE j (linkX (getN l i) ((getN l i).links + 1)) = cntE j (getN l i) from rfl] at h1
  unfold naL
  omega
theorem na_mem (h : SoundP mi mb nx l) (hg : Given l d n i) {y : Nd} (hy : y ∈ naL l d n i ev) : y = linkX (getN l i) ((getN l i).links + 1) ∨ y = moreD (getN l d) n i ev ∨ (y ∈ l ∧ y.ino ≠ d ∧ y.ino ≠ i) := by
  have hd := (dir_parts hg.dir).1
  unfold naL at hy
  rcases mem_set.1 hy with e | ⟨hy, h1⟩
  · exact .inl e
  · rw [link_ino hg.has] at h1
    rcases mem_set.1 hy with e | ⟨hy, h2⟩
    · exact .inr (.inl e)
    · rw [more_ino l hd] at h2; exact .inr (.inr ⟨hy, h2, h1⟩)
theorem na_keep (h : SoundP mi mb nx l) (hg : Given l d n i) {k : Int} {e : Ent} (he : e ∈ (getN l k).ents) : e ∈ (getN (naL l d n i ev) k).ents := by
  rw [na_get h hg]
  split
  · rename_i e2
    rw [e2] at he
    exact he
  split
  · rename_i e2
    rw [e2] at he
    refine mem_with.2 (.inr ⟨he, fun e3 => ?_⟩)
    have := hg.gone
    unfold hasB at this
    rw [List.any_eq_false] at this
    exact this e he (by simpa using e3)
  · exact he
theorem na_reach (h : SoundP mi mb nx l) (hg : Given l d n i) {k : Int} (hk : Reach l k) : Reach (naL l d n i ev) k := by
  induction hk with
  | root => exact .root
  | step _ he ih => exact .step ih (na_keep h hg he)
theorem na_ents (h : SoundP mi mb nx l) (hg : Given l d n i) : entsN (naL l d n i ev) = entsN l + 1 := by
  have hd := (dir_parts hg.dir).1
  have a2 := ents_set h.rise (moreD (getN l d) n i ev)
  rw [more_ino l hd] at a2
  have a3 : (moreD (getN l d) n i ev).ents.length = (getN l d).ents.length + 1 := by
    have := (with_perm (getN l d).ents n i).length_eq
    rw [without_none (dir_sort h d) hg.gone] at this
    exact this
  have h5 : getN (setN l (moreD (getN l d) n i ev)) i = getN l i := by rw [get_set h.rise, more_ino l hd, if_neg (given_ne hg)]
  have a1 := ents_set (set_rise (moreD (getN l d) n i ev) h.rise) (linkX (getN l i) ((getN l i).links + 1))
  rw [link_ino hg.has, h5, show (linkX (getN l i) ((getN l i).links + 1)).ents.length = (getN l i).ents.length from rfl] at a1
  unfold naL
  omega
theorem na_one (h : SoundP mi mb nx l) (hg : Given l d n i) : i ≠ 1 := by
  intro e
  have := hg.leaf
  rw [e] at this
  exact this h.rootDir
theorem na_sound (h : SoundP mi mb nx l) (hg : Given l d n i) : SoundP mi mb nx (naL l d n i ev) := by
  obtain ⟨hd, hk⟩ := dir_parts hg.dir
  have hi := hg.has
  have hne := given_ne hg
  have hi1 := na_one h hg
  have hdm := get_mem hd
  have him := get_mem hi
  have hnm := fun j => na_names (ev := ev) h hg j
  have hget := fun k => na_get (ev := ev) h hg k
  have hhas := fun k => na_has (ev := ev) h hg k
  have hnmo : ∀ j, j ≠ i → namesN (naL l d n i ev) j = namesN l j := fun j hj => by rw [hnm, if_neg (fun e => hj e.symm)]; omega
  have hdi : ¬ (getN l d).ino = i := by rw [hdm.2]; exact fun e => hne e.symm
  have hposi : 0 < i := by have := (h.ino _ him.1).1; rw [him.2] at this; omega
  refine ⟨h.lim, ?_, na_rise h, by rw [hhas]; exact h.root, ?_, ?_, ?_, ?_, by rw [hnmo 1 (fun e => hi1 e.symm)]; exact h.noRoot, ?_, ?_, ?_, ?_, ?_⟩
  · intro y hy
    rcases na_mem h hg hy with rfl | rfl | hy
    · exact h.ino (getN l i) him.1
    · exact h.ino (getN l d) hdm.1
    · exact h.ino _ hy.1
  · rw [hget, if_neg (fun e => hi1 e.symm)]
    split
    · exact hk
    · exact h.rootDir
  · intro y hy
    rcases na_mem h hg hy with rfl | rfl | hy
    · exact h.kind (getN l i) him.1
    · have := h.kind _ hdm.1
      unfold secondX at this ⊢
      rw [if_pos hk, Bool.and_eq_true] at this
      rw [if_pos (show (moreD (getN l d) n i ev).kind = 2 from hk), Bool.and_eq_true]
      exact ⟨this.1, (rightB_iff _).2 (with_right ((rightB_iff _).1 this.2) (by unfold goodE; rw [hg.may, decide_eq_true hposi]; rfl))⟩
    · exact h.kind y hy.1
  · intro y hy e he
    rw [hhas]
    rcases na_mem h hg hy with rfl | rfl | hy
    · exact h.there _ him.1 e he
    · rcases mem_with.1 he with rfl | he
      · exact hi
      · exact h.there _ hdm.1 e he.1
    · exact h.there _ hy.1 e he
  · intro y hy
    rcases na_mem h hg hy with rfl | rfl | hy
    · have := h.links _ him.1
      show (getN l i).links + 1 = (namesN _ (getN l i).ino : Int)
      rw [him.2] at this ⊢
      rw [hnm, if_pos rfl, this]; omega
    · show (getN l d).links = (namesN _ (getN l d).ino : Int)
      rw [hnmo _ hdi]; exact h.links _ hdm.1
    · rw [hnmo _ hy.2.2]; exact h.links _ hy.1
  · rw [hget, if_neg (fun e => hi1 e.symm)]
    split
    · rename_i e
      show (getN l d).parent = 1
      rw [← e]; exact h.rootPar
    · exact h.rootPar
  · intro y hy hy1
    rcases na_mem h hg hy with rfl | rfl | hy
    · show 1 ≤ namesN _ (getN l i).ino
      rw [him.2, hnm, if_pos rfl]; omega
    · show 1 ≤ namesN _ (getN l d).ino
      rw [hnmo _ hdi]; exact h.named _ hdm.1 hy1
    · rw [hnmo _ hy.2.2]; exact h.named _ hy.1 hy1
  · intro y hy hky hy1
    rcases na_mem h hg hy with rfl | rfl | hy
    · exact absurd hky hg.leaf
    · obtain ⟨h7, m, hm⟩ := h.once _ hdm.1 hk hy1
      show namesN _ (getN l d).ino = 1 ∧ ∃ m, (m, (getN l d).ino) ∈ (getN _ (getN l d).parent).ents
      rw [hnmo _ hdi]
      exact ⟨h7, m, na_keep h hg hm⟩
    · obtain ⟨h7, m, hm⟩ := h.once _ hy.1 hky hy1
      rw [hnmo _ hy.2.2]
      exact ⟨h7, m, na_keep h hg hm⟩
  · intro y hy
    rcases na_mem h hg hy with rfl | rfl | hy
    · exact na_reach h hg (h.reach (getN l i) him.1)
    · exact na_reach h hg (h.reach (getN l d) hdm.1)
    · exact na_reach h hg (h.reach _ hy.1)
  · have a1 : (naL l d n i ev).length = l.length := by
      unfold naL
      rw [len_set_has (set_rise _ h.rise), len_set_has h.rise]
      · rw [more_ino l hd]; exact hd
      · rw [has_set, link_ino hi, hi]; simp
    have a2 : bytesN (naL l d n i ev) = bytesN l := by
      have b2 := bytes_set h.rise (moreD (getN l d) n i ev)
      rw [more_ino l hd] at b2
      have h5 : getN (setN l (moreD (getN l d) n i ev)) i = getN l i := by rw [get_set h.rise, more_ino l hd, if_neg hne]
      have b1 := bytes_set (set_rise (moreD (getN l d) n i ev) h.rise) (linkX (getN l i) ((getN l i).links + 1))
      rw [link_ino hi, h5, show costN (linkX (getN l i) ((getN l i).links + 1)) = costN (getN l i) from rfl] at b1
      have b3 : costN (moreD (getN l d) n i ev) = costN (getN l d) := rfl
      unfold naL
      omega
    have := h.fits
    unfold fitsB at this ⊢
    rw [a1, a2]; exact this
theorem na_list (h : SoundP mi mb nx l) (hg : Given l d n i) : (listN (naL l d n i ev)).length = (listN l).length + 1 := by
  rw [list_exact h.tree, list_exact (na_sound (ev := ev) h hg).tree, na_ents h hg]; omega
theorem grown_na (h : SoundP mi mb nx l) (hg : Given l d n i) : Grown l (naL l d n i ev) d n i := by
  have hne := given_ne hg
  refine ⟨hg.gone, fun {k} hk => ?_, fun {k} hk => by rw [na_has h hg]; exact hk, fun {k} hk m hm => ?_, ?_⟩
  · rw [na_get h hg]
    split
    · rename_i e; subst e; exact ⟨rfl, rfl, rfl, rfl⟩
    split
    · rename_i e; subst e; exact ⟨rfl, rfl, rfl, rfl⟩
    · exact ⟨rfl, rfl, rfl, rfl⟩
  · rw [na_get h hg]
    split
    · rename_i e; subst e; exact ⟨rfl, rfl⟩
    split
    · rename_i e
      subst e
      have := num_with (dir_sort h k) n i m
      have hmn : m ≠ n := fun e => hm ⟨rfl, e⟩
      rw [if_neg hmn, decide_eq_false hmn, Bool.false_or] at this
      exact this
    · exact ⟨rfl, rfl⟩
  · rw [na_get h hg, if_neg (fun e => hne e.symm), if_pos rfl]
    have := num_with (dir_sort h d) n i n
    rw [if_pos rfl] at this
    exact ⟨this.1, by rw [show (moreD (getN l d) n i ev).ents = withB (getN l d).ents n i from rfl, this.2]; simp⟩
theorem without_with {es : List Ent} {n : List UInt8} {i : Int} (hs : sortP es) (h : hasB es n = false) : withoutB (withB es n i) n = es := by
  have hw := with_sort n i hs
  rw [← without_eq n hw]
  unfold withB
  rw [List.filter_append, List.filter_cons_of_neg (by simp)]
  conv => rhs; rw [← without_none hs h]
  unfold withoutB
  rw [filter_all fun e he => by simpa [bne] using lt_ne (List.mem_filter.1 he).2, filter_all fun e he => by simpa [bne] using (lt_ne (List.mem_filter.1 he).2).symm]
/-- A name that was given, taken away again. -/
theorem na_back (h : SoundP mi mb nx l) (hg : Given l d n i) (e2 : Go.Value) : Gone (naL l d n i ev) d n i ∧ (unL (naL l d n i ev) d n i e2).map Nd.key = l.map Nd.key := by
  have hd := (dir_parts hg.dir).1
  have hi := hg.has
  have hne := given_ne hg
  have hs := na_sound (ev := ev) h hg
  have hgi : getN (naL l d n i ev) i = linkX (getN l i) ((getN l i).links + 1) := by rw [na_get h hg, if_pos rfl]
  have hgd : getN (naL l d n i ev) d = moreD (getN l d) n i ev := by rw [na_get h hg, if_neg (fun e => hne e.symm), if_pos rfl]
  have hgone : Gone (naL l d n i ev) d n i := ⟨by rw [hgd]; exact mem_with.2 (.inl rfl), by rw [hgi]; exact leaf_bare h hi hg.leaf⟩
  refine ⟨hgone, ?_⟩
  have hli : 1 ≤ (getN l i).links := by
    have := h.links _ (get_mem hi).1
    have h2 := h.named _ (get_mem hi).1 (by rw [(get_mem hi).2]; exact na_one h hg)
    omega
  have hl0 : ¬ (getN (naL l d n i ev) i).links - 1 = 0 := by
    rw [hgi]
    show ¬ (getN l i).links + 1 - 1 = 0
    omega
  refine key_ext_rise (un_rise hs) h.rise (fun k => ?_) (fun k hk => ?_)
  · rw [un_has hs hgone, na_has h hg]
    split
    · rename_i e
      rw [e, hi, decide_eq_true hl0]
    · rfl
  · rw [un_get hs hgone]
    by_cases hki : k = i
    · rw [if_pos hki, if_neg hl0, hgi, hki]
      unfold linkX Nd.key
      simp
    · rw [if_neg hki]
      by_cases hkd : k = d
      · rw [if_pos hkd, hgd, hkd]
        unfold lessD moreD Nd.key
        simp only
        rw [without_with (dir_sort h d) hg.gone]
      · rw [if_neg hkd, na_get h hg, if_neg hki, if_neg hkd]
end
end Go.Proofs.YtkipplkaffpkjaaGreat

/- A file's content set: the file system stays sound, paths lead where they led. No program's function. -/
set_option linter.unusedVariables false
set_option linter.unusedSimpArgs false
namespace Go.Proofs.YtkipplkaffpkjaaGreat

/-- Alike but for what files hold. -/
structure Alike (l l' : List Nd) : Prop where
  has : ∀ k, hasN l' k = hasN l k
  same : ∀ k, (getN l' k).ino = (getN l k).ino ∧ (getN l' k).kind = (getN l k).kind ∧ (getN l' k).parent = (getN l k).parent ∧ (getN l' k).ents = (getN l k).ents
  data : ∀ k, (getN l k).kind = 3 → (getN l' k).data = (getN l k).data
section
variable {l l' : List Nd}
theorem on_alike (A : Alike l l') (fo : Bool) (g : Nat) (s : Sp) (todo : List (List UInt8)) (dir : Bool) : onN l' fo g s todo dir = onN l fo g s todo dir := by
  match todo with
  | [] => rw [on_nil, on_nil, A.has, (A.same s.ino).2.1]
  | m :: r =>
    obtain ⟨o1, o2, o3, o4⟩ := A.same s.ino
    by_cases hs : s.ino = 0
    · rw [on_gone hs, on_gone hs]
    by_cases hk : (getN l s.ino).kind = 2
    · have hk' := o2.trans hk
      by_cases d1 : m = [46]
      · rw [on_dot hs hk d1, on_dot hs hk' d1, o1]; exact on_alike A fo g _ r dir
      by_cases d2 : m = [46, 46]
      · rw [on_dots hs hk d2, on_dots hs hk' d2, o3]; exact on_alike A fo g _ r dir
      have hst : stopB l' fo dir s.ino m r = stopB l fo dir s.ino m r := by
        unfold stopB
        rw [o4, (A.same _).2.1]
      have hstep : stepS l' s.ino m = stepS l s.ino m := by unfold stepS; rw [o1, o4]
      cases hst1 : stopB l fo dir s.ino m r
      · match g with
        | 0 => rw [on_loop hs hk d1 d2 hst1, on_loop hs hk' d1 d2 (hst.trans hst1)]
        | g + 1 =>
          have hk3 : (getN l (numB (getN l s.ino).ents m)).kind = 3 := by
            unfold stopB at hst1
            simp only [Bool.or_eq_false_iff] at hst1
            simpa using hst1.1.2
          have hln : lnkD l' s.ino m = lnkD l s.ino m := by unfold lnkD; rw [o4]; exact A.data _ hk3
          cases hlo : longB (lnkD l s.ino m)
          · rw [on_link hs hk d1 d2 hst1 hlo, on_link hs hk' d1 d2 (hst.trans hst1) (by rw [hln]; exact hlo), hln, o1]
            exact on_alike A fo g _ _ _
          · rw [on_long hs hk d1 d2 hst1 hlo, on_long hs hk' d1 d2 (hst.trans hst1) (by rw [hln]; exact hlo)]
      · rw [on_stop hs hk d1 d2 hst1, on_stop hs hk' d1 d2 (hst.trans hst1), hstep]
        exact on_alike A fo g _ r dir
    · rw [on_file hs hk, on_file hs (by rw [o2]; exact hk)]
termination_by (g, todo.length)
theorem at_alike (A : Alike l l') (r : List (List UInt8)) : ∀ s, atN l' s r = atN l s r := by
  induction r with
  | nil => intro s; rfl
  | cons m r ih =>
    intro s
    obtain ⟨o1, o2, o3, o4⟩ := A.same s.ino
    by_cases hs : s.ino = 0
    · rw [at_gone hs, at_gone hs]
    by_cases hk : (getN l s.ino).kind = 2
    · rw [at_on hs hk, at_on hs (o2.trans hk), show stepS l' s.ino m = stepS l s.ino m from by unfold stepS; rw [o1, o4]]
      exact ih _
    · rw [at_file hs hk, at_file hs (by rw [o2]; exact hk)]
theorem atP_alike (A : Alike l l') (p : List UInt8) : atP l' p = atP l p := by
  unfold atP
  cases plainB p with
  | none => rfl
  | some ns => exact at_alike A ns _
theorem home_alike (A : Alike l l') (p : List UInt8) : homeP l' p = homeP l p := by
  unfold homeP getP
  rw [atP_alike A]
  split
  · rfl
  split
  · rfl
  · obtain ⟨o1, o2, _, _⟩ := A.same (atP l p).1.ino
    show (if (0 : Int) ≠ 0 then _ else if (getN l' (atP l p).1.ino).kind ≠ 2 then _ else ((getN l' (atP l p).1.ino).ino, (0 : Int))) = (if (0 : Int) ≠ 0 then _ else if (getN l (atP l p).1.ino).kind ≠ 2 then _ else ((getN l (atP l p).1.ino).ino, (0 : Int)))
    rw [o1, o2]
theorem seek_alike (A : Alike l l') (base p : List UInt8) (fo : Bool) : seekP l' base p fo = seekP l base p fo := by
  unfold seekP
  rw [home_alike A, on_alike A, on_alike A]
theorem below_alike (A : Alike l l') (D : Nat) : ∀ i p, belowN l' D i p = belowN l D i p := by
  induction D with
  | zero => intro i p; rfl
  | succ D ih =>
    intro i p
    show (if hasN l' i = true then _ else _ : List Ent) = if hasN l i = true then _ else _
    rw [A.has, (A.same i).2.2.2]
    simp only [ih]
theorem list_alike (A : Alike l l') (h : l'.length = l.length) : listN l' = listN l := by
  unfold listN
  rw [h]; exact below_alike A _ _ _
end

def dataL (l : List Nd) (i : Int) (data : List UInt8) : List Nd := setN l { getN l i with data := data }
section
variable {mi mb nx : Int} {l : List Nd} {i : Int} {data : List UInt8}
theorem data_ino (hi : hasN l i = true) : ({ getN l i with data := data } : Nd).ino = i := (get_mem hi).2
theorem data_get (h : SoundP mi mb nx l) (hi : hasN l i = true) (k : Int) : getN (dataL l i data) k = if k = i then { getN l i with data := data } else getN l k := by
  unfold dataL
  rw [get_set h.rise, data_ino hi]
theorem data_alike (h : SoundP mi mb nx l) (hi : hasN l i = true) (hk : (getN l i).kind = 1) : Alike l (dataL l i data) := by
  refine ⟨fun k => ?_, fun k => ?_, fun k hk3 => ?_⟩
  · unfold dataL
    rw [has_set, data_ino hi]
    by_cases e : k = i
    · rw [e, hi]; simp
    · rw [decide_eq_false e, Bool.false_or]
  · rw [data_get h hi]
    split
    · rename_i e; subst e; exact ⟨rfl, rfl, rfl, rfl⟩
    · exact ⟨rfl, rfl, rfl, rfl⟩
  · rw [data_get h hi]
    split
    · rename_i e; rw [e, hk] at hk3; cases hk3
    · rfl
theorem data_len (h : SoundP mi mb nx l) (hi : hasN l i = true) : (dataL l i data).length = l.length := len_set_has h.rise _ (by rw [data_ino hi]; exact hi)
theorem data_reach (h : SoundP mi mb nx l) (hi : hasN l i = true) (hk : (getN l i).kind = 1) {k : Int} (hr : Reach l k) : Reach (dataL l i data) k := by
  induction hr with
  | root => exact .root
  | step _ he ih => exact .step ih (by rw [((data_alike (data := data) h hi hk).same _).2.2.2]; exact he)
theorem data_names (h : SoundP mi mb nx l) (hi : hasN l i = true) (j : Int) : namesN (dataL l i data) j = namesN l j := by
  have := names_set h.rise ({ getN l i with data := data }) j
  rw [data_ino hi, show cntE j ({ getN l i with data := data } : Nd) = cntE j (getN l i) from rfl] at this
  unfold dataL
  omega
theorem data_sound (h : SoundP mi mb nx l) (hi : hasN l i = true) (hk : (getN l i).kind = 1) (hf : fitsB mi mb l 0 ((data.length : Int) - ((getN l i).data.length : Int)) = true) : SoundP mi mb nx (dataL l i data) := by
  have A := data_alike (data := data) h hi hk
  have him := get_mem hi
  have hmem : ∀ y ∈ dataL l i data, y = { getN l i with data := data } ∨ (y ∈ l ∧ y.ino ≠ i) := fun y hy => by
    unfold dataL at hy
    rcases mem_set.1 hy with e | ⟨h1, h2⟩
    · exact .inl e
    · rw [data_ino hi] at h2; exact .inr ⟨h1, h2⟩
  have hnm := fun j => data_names (data := data) h hi j
  have hdir : ∀ d m (j : Int), (m, j) ∈ (getN l d).ents → (m, j) ∈ (getN (dataL l i data) d).ents := fun d m j hm => by rw [(A.same d).2.2.2]; exact hm
  refine ⟨h.lim, ?_, set_rise _ h.rise, by rw [A.has]; exact h.root, by rw [(A.same 1).2.1]; exact h.rootDir, ?_, ?_, ?_, by rw [hnm]; exact h.noRoot, by rw [(A.same 1).2.2.1]; exact h.rootPar, ?_, ?_, ?_, ?_⟩
  · intro y hy
    rcases hmem y hy with rfl | hy
    · exact h.ino (getN l i) him.1
    · exact h.ino _ hy.1
  · intro y hy
    rcases hmem y hy with rfl | hy
    · have := h.kind _ him.1
      unfold secondX at this ⊢
      rw [if_neg (by omega), if_pos hk] at this
      rw [if_neg (show ¬ (getN l i).kind = 2 by omega), if_pos (show (getN l i).kind = 1 from hk)]
      exact this
    · exact h.kind _ hy.1
  · intro y hy e he
    rw [A.has]
    rcases hmem y hy with rfl | hy
    · exact h.there _ him.1 e he
    · exact h.there _ hy.1 e he
  · intro y hy
    rw [hnm]
    rcases hmem y hy with rfl | hy
    · exact h.links (getN l i) him.1
    · exact h.links _ hy.1
  · intro y hy hy1
    rw [hnm]
    rcases hmem y hy with rfl | hy
    · exact h.named (getN l i) him.1 hy1
    · exact h.named _ hy.1 hy1
  · intro y hy hky hy1
    rw [hnm]
    rcases hmem y hy with rfl | hy
    · exact absurd (show (getN l i).kind = 2 from hky) (by omega)
    · obtain ⟨h7, m, hm⟩ := h.once _ hy.1 hky hy1
      exact ⟨h7, m, hdir _ _ _ hm⟩
  · intro y hy
    rcases hmem y hy with rfl | hy
    · exact data_reach h hi hk (h.reach (getN l i) him.1)
    · exact data_reach h hi hk (h.reach _ hy.1)
  · have b := bytes_set h.rise ({ getN l i with data := data })
    rw [data_ino hi] at b
    have c1 : costN (getN l i) = (getN l i).data.length := costN_yes hk
    have c2 : costN ({ getN l i with data := data } : Nd) = data.length := costN_yes hk
    have hl := data_len (data := data) h hi
    unfold fitsB at hf ⊢
    simp only [Bool.and_eq_true, decide_eq_true_eq] at hf ⊢
    rw [hl, show bytesN (dataL l i data) = bytesN (setN l { getN l i with data := data }) from rfl]
    omega
/-- What was there, written back. -/
theorem data_back (h : SoundP mi mb nx l) (hi : hasN l i = true) : (dataL (dataL l i data) i (getN l i).data).map Nd.key = l.map Nd.key := by
  have hr : riseP (dataL l i data) := set_rise _ h.rise
  have hi' : hasN (dataL l i data) i = true := by unfold dataL; rw [has_set, hi]; simp
  refine key_ext_rise (set_rise _ hr) h.rise (fun k => ?_) (fun k hk => ?_)
  · show hasN (setN (dataL l i data) _) k = _
    rw [has_set, show ({ getN (dataL l i data) i with data := (getN l i).data } : Nd).ino = i from (get_mem hi').2]
    unfold dataL
    rw [has_set, data_ino hi]
    by_cases e : k = i
    · rw [e, hi]; simp
    · rw [decide_eq_false e, Bool.false_or, Bool.false_or]
  · show (getN (setN (dataL l i data) _) k).key = _
    rw [get_set hr, show ({ getN (dataL l i data) i with data := (getN l i).data } : Nd).ino = i from (get_mem hi').2]
    split
    · rename_i e
      subst e
      rw [data_get h hi, if_pos rfl]
    · rename_i e
      rw [data_get h hi, if_neg e]
end
end Go.Proofs.YtkipplkaffpkjaaGreat

/- What is made, as lists. No program's function. -/
set_option linter.unusedVariables false
set_option linter.unusedSimpArgs false
namespace Go.Proofs.YtkipplkaffpkjaaGreat

def leafX (nx k : Int) (data : List UInt8) (d : Int) : Nd := ⟨nx, k, 1, data, if k = 2 then d else 0, .slice none 0 0, []⟩
def sizeK (k : Int) (data : List UInt8) : Int := if k = 1 then (data.length : Int) else 0
def newF (mi mb nx : Int) (l : List Nd) (s : Sp) (k : Int) (data : List UInt8) (ev : Go.Value) : (Int × List Nd) × Int :=
  if mayB s.name = false then ((nx, l), 9) else if fitsB mi mb l 1 (sizeK k data) = false then ((nx, l), 8)
  else ((nx + 1, newL l s.dir s.name ev (leafX nx k data s.dir)), 0)
theorem newF_may {mi mb nx : Int} {l : List Nd} {s : Sp} {k : Int} {data : List UInt8} {ev : Go.Value} (h : mayB s.name = false) : newF mi mb nx l s k data ev = ((nx, l), 9) := by unfold newF; rw [if_pos h]
theorem newF_full {mi mb nx : Int} {l : List Nd} {s : Sp} {k : Int} {data : List UInt8} {ev : Go.Value} (h : mayB s.name = true) (h2 : fitsB mi mb l 1 (sizeK k data) = false) : newF mi mb nx l s k data ev = ((nx, l), 8) := by unfold newF; rw [if_neg (by simp [h]), if_pos h2]
theorem newF_ok {mi mb nx : Int} {l : List Nd} {s : Sp} {k : Int} {data : List UInt8} {ev : Go.Value} (h : mayB s.name = true) (h2 : fitsB mi mb l 1 (sizeK k data) = true) : newF mi mb nx l s k data ev = ((nx + 1, newL l s.dir s.name ev (leafX nx k data s.dir)), 0) := by
  unfold newF; rw [if_neg (by simp [h]), if_neg (by simp [h2])]
def putF (mi mb nx : Int) (l : List Nd) (base p : List UInt8) (k : Int) (data : List UInt8) (refused : Int) (ev : Go.Value) : (Int × List Nd) × Int :=
  if (seekP l base p false).2 ≠ 0 then ((nx, l), (seekP l base p false).2)
  else if (seekP l base p false).1.ino ≠ 0 then ((nx, l), 2)
  else if refused ≠ 0 ∧ slashB p = true then ((nx, l), refused)
  else newF mi mb nx l (seekP l base p false).1 k data ev
def symF (mi mb nx : Int) (l : List Nd) (base target p : List UInt8) (ev : Go.Value) : (Int × List Nd) × Int :=
  if target = [] then ((nx, l), 1) else if 4095 < target.length then ((nx, l), 7)
  else if target.contains 0 = true then ((nx, l), 9) else putF mi mb nx l base p 3 target 1 ev
theorem setN_key2 {a b : List Nd} {x y : Nd} (h : a.map Nd.key = b.map Nd.key) (hx : x.key = y.key) : (setN a x).map Nd.key = (setN b y).map Nd.key := by
  have hi : x.ino = y.ino := (Prod.mk.inj hx).1
  have hf : ∀ (p : Int → Bool) (l : List Nd), (l.filter (fun e => p e.ino)).map Nd.key = (l.map Nd.key).filter (fun q => p q.1) := by
    intro p l
    rw [List.filter_map]; rfl
  unfold setN
  rw [List.map_append, List.map_append, List.map_cons, List.map_cons, hx, hi]
  unfold aheadN behindN
  rw [hf (fun i => decide (i < y.ino)), hf (fun i => decide (i < y.ino)), hf (fun i => decide (y.ino < i)), hf (fun i => decide (y.ino < i)), h]
theorem newL_key (l : List Nd) (d : Int) (n : List UInt8) (a b : Go.Value) (x : Nd) : (newL l d n a x).map Nd.key = (newL l d n b x).map Nd.key := setN_key2 (setN_key l rfl) rfl
theorem newF_key (mi mb nx : Int) (l : List Nd) (s : Sp) (k : Int) (data : List UInt8) (a b : Go.Value) : (newF mi mb nx l s k data a).2 = (newF mi mb nx l s k data b).2 ∧ (newF mi mb nx l s k data a).1.1 = (newF mi mb nx l s k data b).1.1 ∧ onesB (newF mi mb nx l s k data a).1.2 (newF mi mb nx l s k data b).1.2 = true := by
  unfold newF
  split
  · exact ⟨rfl, rfl, onesB_refl _⟩
  split
  · exact ⟨rfl, rfl, onesB_refl _⟩
  · exact ⟨rfl, rfl, decide_eq_true (newL_key l _ _ a b _)⟩
theorem putF_key (mi mb nx : Int) (l : List Nd) (base p : List UInt8) (k : Int) (data : List UInt8) (refused : Int) (a b : Go.Value) : (putF mi mb nx l base p k data refused a).2 = (putF mi mb nx l base p k data refused b).2 ∧ (putF mi mb nx l base p k data refused a).1.1 = (putF mi mb nx l base p k data refused b).1.1 ∧ onesB (putF mi mb nx l base p k data refused a).1.2 (putF mi mb nx l base p k data refused b).1.2 = true := by
  unfold putF
  split
  · exact ⟨rfl, rfl, onesB_refl _⟩
  split
  · exact ⟨rfl, rfl, onesB_refl _⟩
  split
  · exact ⟨rfl, rfl, onesB_refl _⟩
  · exact newF_key _ _ _ _ _ _ _ _ _
theorem symF_key (mi mb nx : Int) (l : List Nd) (base target p : List UInt8) (a b : Go.Value) : (symF mi mb nx l base target p a).2 = (symF mi mb nx l base target p b).2 ∧ (symF mi mb nx l base target p a).1.1 = (symF mi mb nx l base target p b).1.1 ∧ onesB (symF mi mb nx l base target p a).1.2 (symF mi mb nx l base target p b).1.2 = true := by
  unfold symF
  split
  · exact ⟨rfl, rfl, onesB_refl _⟩
  split
  · exact ⟨rfl, rfl, onesB_refl _⟩
  split
  · exact ⟨rfl, rfl, onesB_refl _⟩
  · exact putF_key _ _ _ _ _ _ _ _ _ _ _

/-- What is made in a sound file system. -/
theorem put_sound {mi mb nx : Int} {l : List Nd} (h : SoundP mi mb nx l) (hn : nx < 1099511627776) {base p data : List UInt8} {k refused : Int} {ev : Go.Value} (hk : k = 1 ∨ k = 2 ∨ k = 3) (hd : k = 2 → data = []) (hd3 : k = 3 → 1 ≤ data.length ∧ data.length ≤ 4095 ∧ data.all (fun c => c != 0) = true) (hrf : k ≠ 2 → refused ≠ 0)
    (h0 : (putF mi mb nx l base p k data refused ev).2 = 0) (hrn : refused ≠ 0 ∨ k = 2) :
    SoundP mi mb (putF mi mb nx l base p k data refused ev).1.1 (putF mi mb nx l base p k data refused ev).1.2 ∧
      (∃ d n, seekP (putF mi mb nx l base p k data refused ev).1.2 base p false = (⟨d, n, nx⟩, 0)) ∧
      getN (putF mi mb nx l base p k data refused ev).1.2 nx = leafX nx k data (seekP l base p false).1.dir ∧
      hasN (putF mi mb nx l base p k data refused ev).1.2 nx = true ∧
      (putF mi mb nx l base p k data refused ev).1.2.length = l.length + 1 ∧
      (listN l).Sublist (listN (putF mi mb nx l base p k data refused ev).1.2) ∧ (listN (putF mi mb nx l base p k data refused ev).1.2).length = (listN l).length + 1 := by
  have hsp := seek_spot h base p false
  unfold putF at h0 ⊢
  split at h0
  · rename_i h1; exact absurd h0 h1
  rename_i h1
  rw [if_neg h1]
  split at h0
  · cases h0
  rename_i h2
  rw [if_neg h2]
  split at h0
  · rename_i h3
    exact absurd h0 h3.1
  rename_i h3
  rw [if_neg h3]
  have h1' : (seekP l base p false).2 = 0 := by simpa using h1
  have h2' : (seekP l base p false).1.ino = 0 := by simpa using h2
  have hspot := hsp.1 h1'
  generalize hq : seekP l base p false = q at *
  obtain ⟨⟨qd, qn, qi⟩, qe⟩ := q
  dsimp only at h1' h2' hspot h0 ⊢
  subst h1' h2'
  unfold newF at h0 ⊢
  split at h0
  · cases h0
  rename_i h4
  rw [if_neg h4]
  split at h0
  · cases h0
  rename_i h5
  rw [if_neg h5]
  have h4' : mayB qn = true := by simpa using h4
  have h5' : fitsB mi mb l 1 (sizeK k data) = true := by simpa using h5
  have hqn : qn ≠ [] := (mayB_good h4').2
  obtain ⟨g1, g2, g3⟩ := hspot.entry hqn
  dsimp only at g1 g2 g3
  have hgone : hasB (getN l qd).ents qn = false := by rw [g3]; simp
  have hleaf : Leaf l nx qd qn (leafX nx k data qd) := by
    refine ⟨g1, hgone, h4', rfl, rfl, rfl, ?_, fun hk2 => ?_⟩
    · unfold secondX leafX
      rcases hk with rfl | rfl | rfl
      · rfl
      · rw [hd rfl]; rfl
      · obtain ⟨a1, a2, a3⟩ := hd3 rfl
        simp [a1, a2]
        simpa using a3
    · show (if k = 2 then qd else 0) = qd
      rw [if_pos (show k = 2 from hk2)]
  have hcost : (costN (leafX nx k data qd) : Int) = sizeK k data := by
    unfold sizeK
    by_cases h1 : k = 1
    · rw [if_pos h1]; rw [costN_yes (show (leafX nx k data qd).kind = 1 from h1)]; rfl
    · rw [if_neg h1]; rw [costN_no (show ¬ (leafX nx k data qd).kind = 1 from h1)]; rfl
  rw [← hcost] at h5'
  have hso := new_sound (ev := ev) h hleaf hn h5'
  have hG := grown_new (ev := ev) h hleaf
  have hgx : getN (newL l qd qn ev (leafX nx k data qd)) nx = leafX nx k data qd := by rw [new_get h hleaf, if_pos rfl]
  refine ⟨hso, ⟨qd, qn, seek_grown h hG ?_ hq⟩, hgx, by rw [new_has h hleaf]; simp, new_len h hleaf, list_new h hleaf hn h5'⟩
  rw [hgx]
  by_cases hk2 : k = 2
  · exact .inl hk2
  · right
    have hr := hrf hk2
    cases hsl : slashB p
    · rfl
    · exact absurd ⟨hr, hsl⟩ h3
end Go.Proofs.YtkipplkaffpkjaaGreat

/- What is read and what is set, as lists. No program's function. -/
set_option linter.unusedVariables false
set_option linter.unusedSimpArgs false
namespace Go.Proofs.YtkipplkaffpkjaaGreat

def statF (l : List Nd) (base p : List UInt8) (fo : Bool) : Nd × Int :=
  if (seekP l base p fo).2 ≠ 0 then (zeroN, (seekP l base p fo).2)
  else if hasN l (seekP l base p fo).1.ino = false then (zeroN, 1)
  else (getN l (seekP l base p fo).1.ino, 0)
def readF (l : List Nd) (base p : List UInt8) : List UInt8 × Int :=
  if (statF l base p true).2 ≠ 0 then ([], (statF l base p true).2)
  else if (statF l base p true).1.kind = 2 then ([], 4) else ((statF l base p true).1.data, 0)
def rdlnkF (l : List Nd) (base p : List UInt8) : List UInt8 × Int :=
  if (statF l base p false).2 ≠ 0 then ([], (statF l base p false).2)
  else if (statF l base p false).1.kind ≠ 3 then ([], 9) else ((statF l base p false).1.data, 0)
def setF (mi mb : Int) (l : List Nd) (i : Int) (data : List UInt8) : List Nd × Int :=
  if fitsB mi mb l 0 ((data.length : Int) - ((getN l i).data.length : Int)) = false then (l, 8) else (dataL l i data, 0)
def writeF (mi mb : Int) (l : List Nd) (base p data : List UInt8) : List Nd × Int :=
  if (readF l base p).2 ≠ 0 then (l, (readF l base p).2) else setF mi mb l (statF l base p true).1.ino data
end Go.Proofs.YtkipplkaffpkjaaGreat

/- Small laws for loops over an iterator whose body writes a variable's block: blocks of cells, what a call that only makes memory keeps, an append as one step of a region inside a fence. -/
set_option linter.unusedVariables false
set_option linter.unusedSimpArgs false
namespace Go.Proofs.YtkipplkaffpkjaaGreat
open Go.RowKit

theorem Blk.not_row {W : World} {B : Nat} {t e : TypeId} {cs : Array Value} (h : Blk W B t cs) (hte : t ≠ e) {base size k : Nat} {v : Value} {xs : List Value} (hr : W.ownsRow base e size v k xs) : some B ≠ v.ownBlock := by
  rcases hr.2 with ⟨rfl, _⟩ | ⟨g, cap, cur, rfl, _, hgb, _⟩
  · simp [Value.ownBlock]
  · intro e'
    obtain rfl : B = g := by simpa [Value.ownBlock] using e'
    have := (show W.heap[B]? = _ from h).symm.trans hgb
    simp at this
    exact hte this.2

/-- A block whose cells hold what they hold, and a slice in it that owns its row: cells alone are spoken of. -/
theorem blkRow_own {β : Type} (n₀ B : Nat) (t e : TypeId) (size : Nat) (k : β → Nat) (f : β → List Value) (cs : Value → Array Value) : Own (fun s W => ∃ v, Blk W B t (cs v) ∧ W.ownsRow n₀ e size v (k s) (f s)) := by
  rintro s X Y row ⟨v, hv, hr⟩ hg hrow
  refine ⟨v, hv.kept hg (fun e' => ?_), hr.kept hg ?_⟩
  · obtain ⟨o, ho, hc⟩ := hrow B e'.symm
    rw [show X.heap[B]? = _ from hv] at ho; cases ho; cases hc
  · rcases hr.2 with ⟨rfl, _⟩ | ⟨g, cap, cur, rfl, _, hgb, _⟩
    · exact .inl rfl
    · refine .inr fun e' => ?_
      obtain ⟨o, ho, hc⟩ := hrow g (by simpa [Value.ownBlock] using e'.symm)
      rw [hgb] at ho; cases ho; cases hc
theorem blk_own {β : Type} (B : Nat) (t : TypeId) (cs : β → Array Value) : Own (fun s W => Blk W B t (cs s)) := by
  intro s X Y row hv hg hrow
  refine hv.kept hg (fun e' => ?_)
  obtain ⟨o, ho, hc⟩ := hrow B e'.symm
  rw [show X.heap[B]? = _ from hv] at ho; cases ho; cases hc

/-- A call that only makes memory keeps all. -/
theorem keeps_below {W W' : World} (B : Nat) (h : Below W.heap.size W W') : KeepsFrom B W W' :=
  ⟨h.size, fun k o _ hk _ => by rw [h.block k (Array.getElem?_eq_some_iff.1 hk).1]; exact hk⟩

/-- 'x.f = append(x.f, g(..))', g a call that only makes memory: all that the walk owes. -/
theorem Blk.appended {W W2 w1 : World} {n₀ B i : Nat} {t e : TypeId} {size : Nat} {cs : Array Value} {v v' : Value} {k m : Nat} {xs ys : List Value} {tmp : Obj}
    (hv : Blk W B t cs) (hte : t ≠ e) (hrow : W.ownsRow n₀ e size v k xs) (hn₀ : n₀ ≤ W.heap.size) (hB : n₀ ≤ B) (h2 : Below W.heap.size W W2)
    (hown' : w1.ownsRow n₀ e size v' m ys) (hgrow : (W2.alloc tmp).grownBy w1 v.ownBlock) :
    Blk w1 B t cs ∧ Blk (w1.setCell ⟨B, i, none⟩ v') B t (cs.setIfInBounds i v') ∧ (w1.setCell ⟨B, i, none⟩ v').ownsRow n₀ e size v' m ys ∧ KeepsOthers W (w1.setCell ⟨B, i, none⟩ v') ∧ Below n₀ W (w1.setCell ⟨B, i, none⟩ v') := by
  have hrow2 : W2.ownsRow n₀ e size v k xs := own_keep hrow h2
  have hv2 : Blk W2 B t cs := hv.next h2
  have hv1 : Blk w1 B t cs := (hv2.alloc tmp).kept hgrow (hv2.not_row hte hrow2)
  refine ⟨hv1, hv1.set i v', hown'.kept (grownBy_set w1 B i v') (.inr (hv1.not_row hte hown').symm), ?_, ?_⟩
  · refine ((KeepsOthers.trans ⟨h2.size, fun j o hj _ => by rw [h2.block j (Array.getElem?_eq_some_iff.1 hj).1]; exact hj⟩ (KeepsOthers.alloc W2 tmp)).trans (KeepsOthers.of_grownBy hgrow fun j o ej hj => ?_)).trans (KeepsOthers.setCell _ _ _)
    rcases (hrow2.alloc tmp).2 with ⟨rfl, _⟩ | ⟨g, cap, cur, rfl, _, hgb, _⟩
    · simp [Value.ownBlock] at ej
    · obtain rfl : g = j := by simpa [Value.ownBlock] using ej
      rw [hgb] at hj; cases hj; rfl
  · have hs2 := h2.size
    refine (((h2.mono hn₀).alloc (by omega) tmp).grown hgrow (by simp; omega) fun j ej => ?_).setCell (p := ⟨B, i, none⟩) hB v'
    rcases hrow2.2 with ⟨rfl, _⟩ | ⟨g, cap, cur, rfl, hb, _, _⟩
    · simp [Value.ownBlock] at ej
    · obtain rfl : g = j := by simpa [Value.ownBlock] using ej
      exact hb

theorem stepIn_append_own {F : Fence} {n : Nat} {P : Program} {ops : Array Oper} {o : Oper} {a : Act} {w : World} {K : Act → World → Prop} {Q : Exit → Act → World → Prop} {E : Prop}
    (hgd : o.guard = none) (s x : Operand) (t e : TypeId) (ho : o.op = .call { callee := .builtin .append, args := #[s, x], argTypes := #[t, t] })
    {i : TypeInfo} {z : Value} {size bytes : Nat} (ht : P.underlying t = some (.slice e)) (hi : P.info? e = some i) (hz : i.zero = some z)
    (hsize : i.size = size) (hby : i.bytes = bytes) (hzs : z.cells.size = size) (hsz : 0 < size)
    (base : Nat) {v : Value} {k : Nat} {xs : List Value} (ad : Addr) (m : Nat) (news : List Value) (hs : a.eval s = v) (hx : a.eval x = .slice (some ad) m m) (hown : w.ownsRow base e size v k xs)
    (hm : news.length = m * size) (hnews : ∀ j u, news[j]? = some u → w.cell? (ad.add j) = some u) (h1 : ∀ u ∈ news, u.oneCell' = true) (b1 : k + m ≤ maxLen) (b2 : (k + m) * bytes ≤ 140737488355328) (b3 : base ≤ w.heap.size)
    (hK : ∀ v' w', w'.ownsRow base e size v' (k + m) (xs ++ news) → w.grownBy w' v.ownBlock → K (a.put o.dst v') w') :
    if Region.wanted o (yielded ops a.tmps) = true then Oper.wpIn F n P o a w K Q else E := by
  rw [if_pos (by simp [Region.wanted, hgd])]
  obtain ⟨v', w', hrun, r1, r2, _⟩ := run_append_own (P := P) w base t o.type e i z size bytes ht hi hz hsize hby hzs hsz v k xs hown ad m m news hm hnews h1 b1 b2 b3
  unfold Oper.wpIn
  refine ⟨?_, ?_⟩
  · simp [Oper.about, ho, resolve, Target.leads, Sem.run_pure]
  · rw [Oper.semAt_plain F _ _ (by rw [ho]; intro c hc'; cases hc')]
    simp [execOp, ho, resolve, invoke, builtin, hs, hx, hrun, Result.andThen]
    exact hK v' w' r1 r2
end Go.Proofs.YtkipplkaffpkjaaGreat

/- Walks: the document's Names, Read, Put, Join, Base. -/
set_option linter.unusedVariables false
set_option linter.unusedSimpArgs false
namespace Go.Proofs.YtkipplkaffpkjaaGreat
open Go.RowKit

theorem Tryz.infoS2 : (Tryz.prog.info? 9).map (fun i => (i.zero, i.size, i.bytes)) = some (some (.string ByteArray.empty), 1, 16) := by kernel_rfl

theorem drop_cons {l : List UInt8} {i : Nat} (h : i < l.length) : l.drop i = l[i] :: l.drop (i + 1) := List.drop_eq_getElem_cons h

set_option maxHeartbeats 4000000 in
theorem refNames_any (p : List UInt8) (w : World) (hp : p.length ≤ 1000000) :
    Calls Tryz.prog 78 #[.string ⟨p.toArray⟩] w fun e w' => ∃ v, e = .returned v ∧ w'.ownsRow w.heap.size 9 1 v (namesB p).length (strsV (namesB p)) ∧ Below w.heap.size w w' := by
  obtain ⟨is, hsi, hs0, hs1, hs2⟩ := info_parts Tryz.infoS2
  go_enter Tryz.func78, Tryz.ntmps78
  go_wp2
  go_loopg [3, 4, 5] (p.length + 1) (fun g s3 s4 s5 wr => ∃ (i : Nat) (ns : List (List UInt8)) (a : List UInt8), i + g = p.length + 1 ∧ s5 = .int .i64 i ∧ s4 = .string ⟨a.toArray⟩ ∧ a.length + ns.length ≤ i ∧ wr.ownsRow w.heap.size 9 1 s3 ns.length (strsV ns) ∧
    Aside ((i ≤ p.length → namesB p = ns ++ namesA a (p.drop i)) ∧ (p.length < i → namesB p = ns)) ∧ Below w.heap.size w wr)
  case atStart => exact ⟨0, [], [], by omega, rfl, rfl, by simp, World.ownsRow_nil _ _ _ _, ⟨fun _ => by simp [namesB], fun h => absurd h (by omega)⟩, Below.refl _ _⟩
  case round =>
    obtain ⟨i, ns, a, hig, rfl, rfl, hal, hown, HN, hB⟩ := hrel
    by_cases hle : i ≤ p.length
    · obtain ⟨g, rfl⟩ : ∃ g, gk = g + 1 := ⟨gk - 1, by omega⟩
      have HN1 := Lib.hid (HN.out.1 hle)
      clear HN
      by_cases hlt : i < p.length
      · cases hc : ((p[i].toNat : Int) != 47)
        · have hc2 : p[i] = 47 := UInt8.toNat_inj.1 (by simp at hc; simp; omega)
          have HN2 := Lib.hid (HN1.out.trans (by rw [drop_cons hlt, hc2, namesA_slash]))
          by_cases ha : a = []
          · subst ha
            go_wp2
            go_roundg g
            case measure => omega
            case rel => exact ⟨i + 1, ns, [], by omega, by go_num, rfl, by simp at hal ⊢; omega, hown, ⟨fun _ => by rw [HN2.out, atomB_nil]; rfl, fun h => absurd h (by omega)⟩, hB⟩
          · have ha0 : a.isEmpty = false := by simpa using ha
            have hapos : 0 < a.length := List.length_pos_iff.2 ha
            go_wp2_with (at_builtin; refine wpList_append_new rfl (.tmp 31) (.tmp 33) 76 9 rfl Tryz.underlying76 hsi hs0 hs1 hs2 rfl (by decide) (by decide) w.heap.size _ 1 rfl rfl hown rfl (by simp [Value.oneCell']) (by omega) hB.size ?_; intro v4 w4 hown4 hb4)
            go_roundg g
            case measure => omega
            case rel => exact ⟨i + 1, ns ++ [a], [], by omega, by go_num, rfl, by simp; omega, by simpa [strsV] using hown4, ⟨fun _ => by rw [HN2.out, atomB_cons ha]; simp, fun h => absurd h (by omega)⟩, hB.trans hb4⟩
        · have hc2 : p[i] ≠ 47 := by intro e; rw [e] at hc; exact absurd hc (by decide)
          have HN2 := Lib.hid (HN1.out.trans (by rw [drop_cons hlt, namesA_byte _ _ hc2]))
          have HX : Hid (ByteArray.mk a.toArray ++ (ByteArray.mk p.toArray).extract i (i + 1) = ⟨(a ++ [p[i]]).toArray⟩) := by
            (show _ = _); rw [Lib.extract_eq]; apply ByteArray.ext; simp [ByteArray.data_append, Nat.add_sub_cancel_left, List.take_one, List.head?_drop, hlt]
          have k1 : (0 : Int) ≤ (i : Int) := by omega
          have k2 : (i : Int) ≤ (i : Int) + 1 := by omega
          have k3 : (i : Int) + 1 ≤ (p.length : Int) := by omega
          go_wp2
          go_roundg g
          case measure => omega
          case rel => exact ⟨i + 1, ns, a ++ [p[i]], by omega, by go_num, by rw [HX.out], by simp; omega, hown, ⟨fun _ => HN2.out, fun h => absurd h (by omega)⟩, hB⟩
      · obtain rfl : i = p.length := by omega
        have HN2 := Lib.hid (HN1.out.trans (by rw [List.drop_length, namesA_nil]))
        by_cases ha : a = []
        · subst ha
          go_wp2
          go_roundg g
          case measure => omega
          case rel => exact ⟨p.length + 1, ns, [], by omega, by go_num, rfl, by simp at hal ⊢; omega, hown, ⟨fun h => absurd h (by omega), fun _ => by rw [HN2.out, atomB_nil, List.append_nil]⟩, hB⟩
        · have ha0 : a.isEmpty = false := by simpa using ha
          have hapos : 0 < a.length := List.length_pos_iff.2 ha
          go_wp2_with (at_builtin; refine wpList_append_new rfl (.tmp 31) (.tmp 33) 76 9 rfl Tryz.underlying76 hsi hs0 hs1 hs2 rfl (by decide) (by decide) w.heap.size _ 1 rfl rfl hown rfl (by simp [Value.oneCell']) (by omega) hB.size ?_; intro v4 w4 hown4 hb4)
          go_roundg g
          case measure => omega
          case rel => exact ⟨p.length + 1, ns ++ [a], [], by omega, by go_num, rfl, by simp; omega, by simpa [strsV] using hown4, ⟨fun h => absurd h (by omega), fun _ => by rw [HN2.out, atomB_cons ha]⟩, hB.trans hb4⟩
    · have HN2 := Lib.hid (HN.out.2 (by omega))
      go_wp2
      go_ret
      exact ⟨_, rfl, by rw [HN2.out]; exact hown, hB⟩
end Go.Proofs.YtkipplkaffpkjaaGreat

/- Walks: the document's Read, Base, Put, Join. -/
set_option linter.unusedVariables false
set_option linter.unusedSimpArgs false
namespace Go.Proofs.YtkipplkaffpkjaaGreat
open Go.RowKit

abbrev pathR (a : Bool) (v : Value) (s : Bool) : Array Value := #[.bool a, v, .bool s]
theorem cat (a b : List UInt8) : ByteArray.mk a.toArray ++ ByteArray.mk b.toArray = ⟨(a ++ b).toArray⟩ := by apply ByteArray.ext; simp [ByteArray.data_append]
theorem cat47 (a : List UInt8) : ByteArray.mk a.toArray ++ ByteArray.mk #[47] = ⟨(a ++ [47]).toArray⟩ := cat a [47]

theorem refJoin_any (ns : List (List UInt8)) (v : Value) (w : World) (hv : Strs w v ns) (hl : ns.length ≤ 1000000) (hj : (tailB ns).length ≤ 100000000) :
    Calls Tryz.prog 105 #[v] w fun e w' => e = .returned (.string ⟨(joinB ns).toArray⟩) ∧ w = w' := by
  obtain ⟨ad, ca, rfl, hm, HA0⟩ := hv
  have HA := Lib.hid HA0
  clear HA0 hm
  by_cases h0 : 0 < ns.length
  · have hne : ((ns.length : Int) == 0) = false := by rw [beq_eq_false_iff_ne]; omega
    have HJ := Lib.hid (joinB_tail (ns := ns) (by rintro rfl; simp at h0))
    go_enter Tryz.func105, Tryz.ntmps105
    go_wp2
    go_loop [3, 4] (fun s i => ∃ k : Nat, k ≤ ns.length ∧ i = .int .i64 k ∧ s = .string ⟨(tailB (ns.take k)).toArray⟩) (fun _ i => ns.length - (intOf i).toNat)
    case atStart => exact ⟨0, Nat.zero_le _, rfl, rfl⟩
    case round =>
      obtain ⟨k, hk, rfl, rfl⟩ := hrel
      by_cases hlt : k < ns.length
      · obtain ⟨ba, oa, rfl, hba, hca⟩ := HA.out h0
        have c1 : w.cell? ⟨ba, oa + k, none⟩ = some (.string ⟨ns[k].toArray⟩) := hca k hlt
        clear hca
        have HN : Hid (tailB (ns.take (k + 1)) = tailB (ns.take k) ++ 47 :: ns[k]) := by (show _ = _); rw [List.take_succ_eq_append_getElem hlt, tailB_snoc]
        have hlen := Nat.le_trans (tailB_take ns (k + 1)) hj
        rw [HN.out, List.length_append, List.length_cons] at hlen
        go_wp2
        go_round
        case rel => exact ⟨k + 1, by omega, by go_num, by rw [HN.out, cat47, cat]; simp⟩
        case measure => simp [intOf]; omega
      · obtain rfl : k = ns.length := by omega
        rw [List.take_length]
        go_wp2
        go_ret
        exact ⟨ret_str (by rw [HJ.out]), rfl⟩
  · obtain rfl : ns = [] := List.eq_nil_of_length_eq_zero (by omega)
    go_enter Tryz.func105, Tryz.ntmps105
    go_wp2
    go_ret
    exact ⟨rfl, rfl⟩

theorem interB_nextR (ns : List (List UInt8)) (k : Nat) (h : k < ns.length) : interB (ns.take (k + 1)) = if k = 0 then ns[k] else interB (ns.take k) ++ 47 :: ns[k] := by
  rw [List.take_succ_eq_append_getElem h, interB_snoc]
  by_cases hk : k = 0
  · subst hk; simp
  · rw [if_neg hk, if_neg (by cases ns <;> cases k <;> simp_all)]

end Go.Proofs.YtkipplkaffpkjaaGreat

/- Walks: the statements' few, the document's Find. -/
set_option linter.unusedVariables false
set_option linter.unusedSimpArgs false
namespace Go.Proofs.YtkipplkaffpkjaaGreat
open Go.RowKit

theorem refFind_any (l : List Ent) (n : List UInt8) (v : Value) (w : World) (hv : Ents w v l) :
    Calls Tryz.prog 80 #[v, .string ⟨n.toArray⟩] w fun e w' => e = .returned (.tuple #[.int .i64 (numB l n), .bool (hasB l n)]) ∧ w = w' := by
  obtain ⟨a, ca, rfl, hc, hm, HA0⟩ := hv
  unfold maxLen at hm
  have HA := Lib.hid HA0
  clear HA0
  go_enter Tryz.func80, Tryz.ntmps80
  go_wp2
  go_loop [6] (fun i => ∃ k : Nat, k ≤ l.length ∧ i = .int .i64 k ∧ Aside ((l.take k).any (fun e => e.1 == n) = false)) (fun i => l.length - (intOf i).toNat)
  case atStart => exact ⟨0, Nat.zero_le _, rfl, by (show _ = _); simp⟩
  case round =>
    obtain ⟨k, hk, rfl, HT⟩ := hrel
    by_cases hlt : k < l.length
    · obtain ⟨b, o, rfl, hb, hcl⟩ := HA.out (by omega)
      obtain ⟨c1, c2⟩ := hcl k hlt
      clear hcl
      cases he : (l[k].1 == n)
      · have HT2 := Lib.hid (any_next hlt HT.out (by simpa using he))
        go_wp2
        go_round
        case rel => exact ⟨k + 1, by omega, by go_num, HT2.out⟩
        case measure => simp [intOf]; omega
      · have HF := Lib.hid (find_at hlt HT.out (by simpa using he))
        go_wp2
        go_ret2
        exact ⟨by rw [HF.out.1, HF.out.2]; rfl, rfl⟩
    · obtain rfl : k = l.length := by omega
      have HF := Lib.hid (find_none (l := l) (n := n) (by have := HT.out; rwa [List.take_length] at this))
      go_wp2
      go_ret2
      exact ⟨by rw [HF.out.1, HF.out.2]; rfl, rfl⟩
end Go.Proofs.YtkipplkaffpkjaaGreat

/- Walks: the document's Long, May, Under, Plain, Read. -/
set_option linter.unusedVariables false
set_option linter.unusedSimpArgs false
namespace Go.Proofs.YtkipplkaffpkjaaGreat
open Go.RowKit

theorem refLong_any (p : List UInt8) (w : World) (hp : p.length ≤ 1000000) :
    Calls Tryz.prog 53 #[.string ⟨p.toArray⟩] w fun e w' => e = .returned (.bool (longB p)) ∧ Below w.heap.size w w' := by
  have hct := namesB_count p
  go_enter Tryz.func53, Tryz.ntmps53
  go_wp2_with fail; refine (refNames_any p _ hp).mono ?_; rintro e w1 ⟨v, rfl, hown, h1⟩
  obtain ⟨ad, ca, rfl, hm, HA0⟩ := own_strs hown
  have HA := Lib.hid HA0
  clear HA0 hm hown
  go_wp2
  go_loop [4] (fun i => ∃ k : Nat, k ≤ (namesB p).length ∧ i = .int .i64 k ∧ Aside (∀ j (hj : j < (namesB p).length), j < k → (namesB p)[j].length ≤ 255)) (fun i => (namesB p).length - (intOf i).toNat)
  case atStart => exact ⟨0, Nat.zero_le _, rfl, fun j hj h => absurd h (by omega)⟩
  case round =>
    obtain ⟨k, hk, rfl, HT⟩ := hrel
    by_cases hlt : k < (namesB p).length
    · obtain ⟨ba, oa, rfl, hba, hca⟩ := HA.out (by omega)
      have c1 : w1.cell? ⟨ba, oa + k, none⟩ = some (.string ⟨(namesB p)[k].toArray⟩) := hca k hlt
      clear hca
      by_cases h3 : (namesB p)[k].length ≤ 255
      · have HT2 : Hid (∀ j (hj : j < (namesB p).length), j < k + 1 → (namesB p)[j].length ≤ 255) := by
          intro j hj h
          rcases Nat.lt_or_ge j k with h' | h'
          · exact HT.out j hj h'
          · obtain rfl : j = k := by omega
            exact h3
        go_wp2
        go_round
        case rel => exact ⟨k + 1, by omega, by go_num, HT2.out⟩
        case measure => simp [intOf]; omega
      · have HN : Hid (longB p = true) := by
          (show _ = _); simp only [longB, Bool.or_eq_true, List.any_eq_true, decide_eq_true_eq]
          exact .inr ⟨_, List.getElem_mem hlt, by omega⟩
        go_wp2
        go_ret
        exact ⟨ret_bool (by rw [HN.out]), h1⟩
    · have HN : Hid (longB p = decide (4095 < p.length)) := by
        have : (namesB p).any (fun n => decide (255 < n.length)) = false := by
          simp only [List.any_eq_false, decide_eq_true_eq]
          intro n hn
          obtain ⟨j, hj, rfl⟩ := List.getElem_of_mem hn
          have := HT.out j hj (by omega)
          omega
        (show _ = _); unfold longB; rw [this, Bool.or_false]
      go_wp2
      go_ret
      exact ⟨ret_bool (by rw [HN.out]; simp; try omega), h1⟩

end Go.Proofs.YtkipplkaffpkjaaGreat

/- copy(dst, src) into a row known whole, at elements of whatever number of cells. No program's function. -/
set_option linter.unusedVariables false
set_option linter.unusedSimpArgs false
namespace Go.Proofs.YtkipplkaffpkjaaGreat
open Go.RowKit

theorem run_copy_size {P : Program} (w : World) (dT sT ty elem : TypeId) (sz : Nat) (g o dLen dCap : Nat) (a : Addr) (sLen sCap : Nat) (cur : Array Value) (t : TypeId) (cs : List Value)
    (hu : P.underlying dT = some (.slice elem)) (hs : (P.info? elem).map (·.size) = some sz)
    (hg : w.heap[g]? = some (.cells cur t (0, 0))) (hn : cs.length = Nat.min sLen dLen * sz)
    (hsrc : ∀ j v, cs[j]? = some v → w.cell? (a.add j) = some v) (hfit : o + cs.length ≤ cur.size) (h1 : ∀ v ∈ cs, v.oneCell' = true) :
    (Builtin.copy_ #[dT, sT] ty #[.slice (some ⟨g, o, none⟩) dLen dCap, .slice (some a) sLen sCap]).run P w =
      .ok (goInt (Nat.min sLen dLen)) (w.setRow g (cur.toList.take o ++ cs ++ cur.toList.drop (o + cs.length)).toArray) := by
  have hl := run_loadCells_list (P := P) w a cs hsrc
  have hst := run_storeCells_at P g o t cs 0 cur w hg (by simpa using hfit) h1
  cases hq : P.info? elem with
  | none => simp [hq] at hs
  | some i =>
    have hi : i.size = sz := by simpa [hq] using hs
    simp [Builtin.copy_, run_underlying hu, Builtin.lenOf, Builtin.firstCells, sizeOf, typeInfo, hq, hi, ← hn, hl, hst]

theorem run_copy_zero {P : Program} (w : World) (dT sT ty elem : TypeId) (sz : Nat) (d a : Option Addr) (dLen dCap sLen sCap : Nat) (hu : P.underlying dT = some (.slice elem)) (hs : (P.info? elem).map (·.size) = some sz) (hn : Nat.min sLen dLen = 0) :
    (Builtin.copy_ #[dT, sT] ty #[.slice d dLen dCap, .slice a sLen sCap]).run P w = .ok (goInt 0) w := by
  cases hq : P.info? elem with
  | none => simp [hq] at hs
  | some i =>
    have hl : ∀ (x : Addr), (loadCells x 0).run P w = .ok #[] w := fun x => by simpa using run_loadCells_list (P := P) w x [] (by simp)
    cases d <;> cases a <;> simp [Builtin.copy_, run_underlying hu, Builtin.lenOf, Builtin.firstCells, sizeOf, typeInfo, hq, hn, storeCells, hl]

/-- The run, to be laid ahead of the walk. -/
theorem run_copy_splice {P : Program} (w : World) (dT sT ty elem : TypeId) (sz : Nat) (hu : P.underlying dT = some (.slice elem)) (hsz : (P.info? elem).map (·.size) = some sz)
    (g off dLen dCap : Nat) (sp : Option Addr) (sLen sCap m : Nat) (hm : Nat.min sLen dLen = m) (cur : List Value) (t : TypeId) (hg : w.heap[g]? = some (.cells cur.toArray t (0, 0))) (cs : List Value) (hn : cs.length = m * sz)
    (hpos : 0 < m → ∃ ad, sp = some ad ∧ ∀ j v, cs[j]? = some v → w.cell? (ad.add j) = some v) (hfit : off + cs.length ≤ cur.length) (h1 : ∀ v ∈ cs, v.oneCell' = true) :
    ∃ w', (Builtin.copy_ #[dT, sT] ty #[.slice (some ⟨g, off, none⟩) dLen dCap, .slice sp sLen sCap]).run P w = .ok (goInt m) w' ∧ w'.heap[g]? = some (.cells (splice cur off cs).toArray t (0, 0)) ∧ ∀ B w0, Below B w0 w → B ≤ g → Below B w0 w' := by
  by_cases h0 : m = 0
  · subst h0
    obtain rfl : cs = [] := List.eq_nil_of_length_eq_zero (by simpa using hn)
    exact ⟨w, run_copy_zero w dT sT ty elem sz _ _ _ _ _ _ hu hsz hm, by simpa [splice] using hg, fun B w0 hb _ => hb⟩
  · obtain ⟨ad, rfl, hsrc⟩ := hpos (by omega)
    have hrun := run_copy_size (P := P) w dT sT ty elem sz g off dLen dCap ad sLen sCap cur.toArray t cs hu hsz hg (by rw [hm]; exact hn) hsrc (by simpa using hfit) h1
    rw [hm] at hrun
    exact ⟨_, hrun, by simpa [splice] using setRow_heap w g _ _ t _ hg, fun B w0 hb hBg => below_setRow hb hBg _⟩

theorem wpList_copy_size {P : Program} {w : World} {ops : Array Oper} {rest : List Oper} {o : Oper} {a : Act} {Q : Exit → Act → World → Prop} (hgd : o.guard = none) (d s : Operand) (dT sT : TypeId)
    (ho : o.op = .call { callee := .builtin .copy, args := #[d, s], argTypes := #[dT, sT] }) (elem : TypeId) (sz : Nat) (hu : P.underlying dT = some (.slice elem)) (hsz : (P.info? elem).map (·.size) = some sz)
    (dp sp : Option Addr) (dLen dCap sLen sCap : Nat) (hd : a.eval d = .slice dp dLen dCap) (hs : a.eval s = .slice sp sLen sCap) (m : Nat) (hm : Nat.min sLen dLen = m)
    (g off : Nat) (cur : List Value) (t : TypeId) (hg : w.heap[g]? = some (.cells cur.toArray t (0, 0))) (cs : List Value) (hn : cs.length = m * sz)
    (hpos : 0 < m → dp = some ⟨g, off, none⟩ ∧ ∃ ad, sp = some ad ∧ ∀ j v, cs[j]? = some v → w.cell? (ad.add j) = some v)
    (hfit : off + cs.length ≤ cur.length) (h1 : ∀ v ∈ cs, v.oneCell' = true) (B : Nat) (w0 : World) (hb : Below B w0 w) (hBg : B ≤ g)
    (h : ∀ w', Hid (w'.heap[g]? = some (.cells (splice cur off cs).toArray t (0, 0))) → Below B w0 w' → wpList P ops Q rest (a.put o.dst (goInt m)) w') :
    wpList P ops Q (o :: rest) a w := by
  refine wpList_plain hgd fun K hK => ?_
  by_cases h0 : m = 0
  · subst h0
    obtain rfl : cs = [] := List.eq_nil_of_length_eq_zero (by simpa using hn)
    have hrun := run_copy_zero (P := P) w dT sT o.type elem sz dp sp dLen dCap sLen sCap hu hsz hm
    unfold Oper.wp
    simp [execOp, ho, resolve, invoke, builtin, hd, hs, hrun, Result.andThen]
    exact hK _ _ (h w (show _ = _ by simpa [splice] using hg) hb)
  · obtain ⟨rfl, ad, rfl, hsrc⟩ := hpos (by omega)
    have hrun := run_copy_size (P := P) w dT sT o.type elem sz g off dLen dCap ad sLen sCap cur.toArray t cs hu hsz hg (by rw [hm]; exact hn) hsrc (by simpa using hfit) h1
    rw [hm] at hrun
    unfold Oper.wp
    simp [execOp, ho, resolve, invoke, builtin, hd, hs, hrun, Result.andThen]
    exact hK _ _ (h _ (show _ = _ by simpa [splice] using setRow_heap w g _ _ t _ hg) (below_setRow hb hBg _))
end Go.Proofs.YtkipplkaffpkjaaGreat

/- A drawn region's operations, taken one by one: its destination given outright; one that no guard wants is passed over. -/
set_option linter.unusedVariables false
set_option linter.unusedSimpArgs false
namespace Go.Proofs.YtkipplkaffpkjaaGreat

section
variable {P : Program} {ops : Array Oper} {Q : Exit → Act → World → Prop} {md : Region.Mode} {S : World → Prop}
theorem heldTake (i : Nat) (d : Option Tmp) {oi : Oper} {v : Value} {fuel : Nat} {listed : Array Bool} {a : Act} {w : World} (hi : ops[i]? = some oi) (hd : oi.dst = d)
    (hs : Region.noSelect ops = true) (hf : Region.free md ops listed i = true) (hr : (Region.ready md ops listed).contains i = true)
    (hQ : ∀ c a w, Q (.panic c) (a.put d v) w → Q (.panic c) a w) (hw : Region.wanted oi (yielded ops a.tmps) = true) (hv : ∀ w, S w → (execOp a.eval oi).run P w = .ok (.value v) w) (hS : S w)
    (h : wpAnyH P md ops Q S fuel (listed.setIfInBounds i true) (a.put d v) w) : wpAnyH P md ops Q S (fuel + 1) listed a w := by
  subst hd
  exact wpAnyH_take hi hs hf hr hQ (.inl ⟨hw, hv⟩) hS h
theorem heldSkip (i : Nat) (d : Option Tmp) {oi : Oper} {fuel : Nat} {listed : Array Bool} {a : Act} {w : World} (hi : ops[i]? = some oi) (hd : oi.dst = d)
    (hs : Region.noSelect ops = true) (hf : Region.free md ops listed i = true) (hr : (Region.ready md ops listed).contains i = true)
    (hQ : ∀ c a w, Q (.panic c) (a.put d undef) w → Q (.panic c) a w) (hw : Region.wanted oi (yielded ops a.tmps) = false) (hS : S w)
    (h : wpAnyH P md ops Q S fuel (listed.setIfInBounds i true) (a.put d undef) w) : wpAnyH P md ops Q S (fuel + 1) listed a w := by
  subst hd
  exact wpAnyH_take hi hs hf hr hQ (.inr ⟨hw, rfl⟩) hS h
end
end Go.Proofs.YtkipplkaffpkjaaGreat

/- What is linked and what is taken away, as lists. No program's function. -/
set_option linter.unusedVariables false
set_option linter.unusedSimpArgs false
namespace Go.Proofs.YtkipplkaffpkjaaGreat

def unlinkF (l : List Nd) (base p : List UInt8) (ev : Go.Value) : List Nd × Int :=
  if (seekP l base p false).2 ≠ 0 then (l, (seekP l base p false).2)
  else if (seekP l base p false).1.ino = 0 then (l, 1)
  else if (getN l (seekP l base p false).1.ino).kind = 2 then (l, 4)
  else (unL l (seekP l base p false).1.dir (seekP l base p false).1.name (seekP l base p false).1.ino ev, 0)
def rmdirF (l : List Nd) (base p : List UInt8) (ev : Go.Value) : List Nd × Int :=
  if (seekP l base p false).2 ≠ 0 then (l, (seekP l base p false).2)
  else if (seekP l base p false).1.ino = 0 then (l, 1)
  else if (getN l (seekP l base p false).1.ino).kind ≠ 2 then (l, 3)
  else if (getN l (seekP l base p false).1.ino).ino = 1 then (l, 10)
  else if (seekP l base p false).1.name = [] then (l, 9)
  else if (getN l (seekP l base p false).1.ino).ents.length > 0 then (l, 5)
  else (unL l (seekP l base p false).1.dir (seekP l base p false).1.name (seekP l base p false).1.ino ev, 0)
def linkF (l : List Nd) (base src dst : List UInt8) (ev : Go.Value) : List Nd × Int :=
  if (seekP l base src false).2 ≠ 0 then (l, (seekP l base src false).2)
  else if (seekP l base src false).1.ino = 0 then (l, 1)
  else if (getN l (seekP l base src false).1.ino).kind = 2 then (l, 11)
  else if (seekP l base dst false).2 ≠ 0 then (l, (seekP l base dst false).2)
  else if (seekP l base dst false).1.ino ≠ 0 then (l, 2)
  else if slashB dst = true then (l, 1)
  else if mayB (seekP l base dst false).1.name = false then (l, 9)
  else (naL l (seekP l base dst false).1.dir (seekP l base dst false).1.name (getN l (seekP l base src false).1.ino).ino ev, 0)
theorem sumN_le {f g : Nd → Nat} (h : ∀ x, f x ≤ g x) : ∀ l : List Nd, sumN f l ≤ sumN g l
  | [] => Nat.le_refl _
  | x :: l => by
    have := sumN_le h l
    have := h x
    unfold sumN at *
    simp only [List.map_cons, List.sum_cons]
    omega
theorem names_ents (l : List Nd) (j : Int) : namesN l j ≤ entsN l := by
  rw [names_cnt]
  exact sumN_le (fun x => by unfold cntE; exact Nat.le_trans List.count_le_length (by rw [List.length_map]; exact Nat.le_refl _)) l
/-- The numbers of links that a sound file system can hold. -/
theorem links_few {mi mb nx : Int} {l : List Nd} (h : okB mi mb nx l = true) (i : Int) : 0 ≤ (getN l i).links ∧ (getN l i).links ≤ 1600 := by
  have hs := ok_sound h
  have he := (few_ents (ok_parts h).1).1
  cases hh : hasN l i
  · rw [getN_none hh]; exact ⟨Int.le_refl _, by decide⟩
  · have h1 := hs.links _ (get_mem hh).1
    have h2 := names_ents l (getN l i).ino
    omega
end Go.Proofs.YtkipplkaffpkjaaGreat

/- The name that a path leads to is no longer than a name may be. No program's function. -/
set_option linter.unusedVariables false
set_option linter.unusedSimpArgs false
namespace Go.Proofs.YtkipplkaffpkjaaGreat

theorem long_no {p : List UInt8} (h : longB p = false) : p.length ≤ 4095 ∧ ∀ n ∈ namesB p, n.length ≤ 255 := by
  unfold longB at h
  simpa using h
theorem on_short (l : List Nd) (fo : Bool) (g : Nat) (s : Sp) (todo : List (List UInt8)) (dir : Bool) (hs : s.name.length ≤ 255) (ht : ∀ n ∈ todo, n.length ≤ 255) : (onN l fo g s todo dir).1.name.length ≤ 255 := by
  have hz : (zeroS).name.length ≤ 255 := by decide
  match todo with
  | [] =>
    rw [on_nil]
    split
    · exact hz
    · exact hs
  | m :: r =>
    have hr : ∀ n ∈ r, n.length ≤ 255 := fun n hn => ht n (by simp [hn])
    by_cases h0 : s.ino = 0
    · rw [on_gone h0]; exact hz
    by_cases hk : (getN l s.ino).kind = 2
    · by_cases d1 : m = [46]
      · rw [on_dot h0 hk d1]; exact on_short l fo g _ r dir (by simp) hr
      by_cases d2 : m = [46, 46]
      · rw [on_dots h0 hk d2]; exact on_short l fo g _ r dir (by simp) hr
      cases hst : stopB l fo dir s.ino m r
      · match g with
        | 0 => rw [on_loop h0 hk d1 d2 hst]; exact hz
        | g + 1 =>
          cases hlo : longB (lnkD l s.ino m)
          · rw [on_link h0 hk d1 d2 hst hlo]
            refine on_short l fo g _ _ _ (by simp) fun n hn => ?_
            rcases List.mem_append.1 hn with hn | hn
            · exact (long_no hlo).2 n hn
            · exact hr n hn
          · rw [on_long h0 hk d1 d2 hst hlo]; exact hz
      · rw [on_stop h0 hk d1 d2 hst]
        exact on_short l fo g _ r dir (ht m (by simp)) hr
    · rw [on_file h0 hk]; exact hz
termination_by (g, todo.length)
theorem seek_short (l : List Nd) (base p : List UInt8) (fo : Bool) : (seekP l base p fo).1.name.length ≤ 255 := by
  have hz : (zeroS).name.length ≤ 255 := by decide
  unfold seekP
  split
  · exact hz
  split
  · exact hz
  rename_i hl
  have hn := (long_no (p := p) (by simpa using hl)).2
  split
  · exact on_short _ _ _ _ _ _ (by simp) hn
  split
  · exact hz
  · exact on_short _ _ _ _ _ _ (by simp) hn
end Go.Proofs.YtkipplkaffpkjaaGreat

/- What is made: the sizes of the table, and what the statement asks of it. No program's function. -/
set_option linter.unusedVariables false
set_option linter.unusedSimpArgs false
namespace Go.Proofs.YtkipplkaffpkjaaGreat

structure Sized (L : List Nd) : Prop where
  len : L.length ≤ 42
  short : ∀ x ∈ L, shortP 300 x.ents
  data : ∀ x ∈ L, x.data.length ≤ 5000
  pairs : (pairsN L).length ≤ 1000000
theorem pairs_few {L : List Nd} {m : Nat} (h : ∀ x ∈ L, x.ents.length ≤ m) : (pairsN L).length ≤ L.length * m := by
  induction L with
  | nil => simp [pairsN]
  | cons x r ih =>
    have h1 := ih fun y hy => h y (by simp [hy])
    have h2 := h x (by simp)
    have e : (pairsN (x :: r)).length = x.ents.length + (pairsN r).length := by simp [pairsN]
    rw [e, List.length_cons, Nat.add_mul]
    omega
theorem newL_sized {l : List Nd} (hc : Calm l) (hl : l.length ≤ 40) (d : Int) {n : List UInt8} (hn : n.length ≤ 255) (ev : Go.Value) {x : Nd} (hx : x.ents = []) (hd : x.data.length ≤ 5000) : Sized (newL l d n ev x) := by
  have hg := calm_get hc d
  have hm : ∀ z ∈ newL l d n ev x, z = x ∨ z = moreD (getN l d) n x.ino ev ∨ z ∈ l := fun z hz => by
    rcases mem_setN hz with h | h
    · exact .inl h
    · exact .inr (mem_setN h)
  have hlen : (newL l d n ev x).length ≤ 42 := by
    have h1 := setN_len (setN l (moreD (getN l d) n x.ino ev)) x
    have h2 := setN_len l (moreD (getN l d) n x.ino ev)
    unfold newL
    omega
  have hel : ∀ z ∈ newL l d n ev x, z.ents.length ≤ 1001 := fun z hz => by
    rcases hm z hz with rfl | rfl | h
    · rw [hx]; exact Nat.zero_le _
    · exact Nat.le_trans (with_len _ _ _) (by have := hg.2.1; omega)
    · have := (hc.size z h).1; omega
  refine ⟨hlen, fun z hz => ?_, fun z hz => ?_, ?_⟩
  · rcases hm z hz with rfl | rfl | h
    · rw [hx]; exact fun _ h => (nomatch h)
    · intro e he
      rcases mem_with.1 he with rfl | ⟨h, _⟩
      · show n.length ≤ 300
        omega
      · exact hg.2.2.2 e h
    · exact (hc.size z h).2.2
  · rcases hm z hz with rfl | rfl | h
    · exact hd
    · exact hg.2.2.1
    · exact (hc.size z h).2.1
  · have := pairs_few hel
    have h2 : (newL l d n ev x).length * 1001 ≤ 42 * 1001 := Nat.mul_le_mul_right _ hlen
    omega
theorem Sized.get {L : List Nd} (h : Sized L) (i : Int) : (getN L i).data.length ≤ 5000 := by
  cases hh : hasN L i
  · rw [getN_none hh]; exact Nat.zero_le _
  · exact h.data _ (get_mem hh).1
theorem Sized.bytes {L : List Nd} (h : Sized L) : bytesN L ≤ 1000000 := by
  have := bytesN_few h.data
  have h2 : L.length * 5000 ≤ 42 * 5000 := Nat.mul_le_mul_right _ h.len
  omega

/-- What the statement asks of what a call answers. -/
structure MadeT (mi mb nx : Int) (l : List Nd) (base p data : List UInt8) (K : Int) (Z : (Int × List Nd) × Int) : Prop where
  bad : Z.2 ≠ 0 → Z.1 = (nx, l)
  good : Z.2 = 0 → checkN mi mb Z.1.1 Z.1.2 = 0 ∧ (∃ d n, seekP Z.1.2 base p false = (⟨d, n, nx⟩, 0)) ∧ hasN Z.1.2 nx = true ∧ (getN Z.1.2 nx).kind = K ∧ (getN Z.1.2 nx).ino = nx ∧ (K ≠ 2 → (getN Z.1.2 nx).data = data) ∧ Z.1.2.length = l.length + 1 ∧ (listN l).Sublist (listN Z.1.2) ∧ (listN Z.1.2).length = (listN l).length + 1 ∧ Sized Z.1.2
theorem newF_sized {mi mb nx : Int} {l : List Nd} (hc : Calm l) (hl : l.length ≤ 40) {s : Sp} {k : Int} {data : List UInt8} {ev : Go.Value} (hn : s.name.length ≤ 255) (hd : data.length ≤ 5000) (h : (newF mi mb nx l s k data ev).2 = 0) : Sized (newF mi mb nx l s k data ev).1.2 := by
  unfold newF at h ⊢
  split at h
  · cases h
  rename_i h1
  rw [if_neg h1]
  split at h
  · cases h
  rename_i h2
  rw [if_neg h2]
  exact newL_sized hc hl s.dir hn ev rfl hd
theorem putF_bad {mi mb nx : Int} {l : List Nd} {base p : List UInt8} {k : Int} {data : List UInt8} {rf : Int} {ev : Go.Value} (h : (putF mi mb nx l base p k data rf ev).2 ≠ 0) : (putF mi mb nx l base p k data rf ev).1 = (nx, l) := by
  unfold putF newF at h ⊢
  split
  · rfl
  split
  · rfl
  split
  · rfl
  split
  · rfl
  split
  · rfl
  · rename_i h1 h2 h3 h4 h5
    rw [if_neg h1, if_neg h2, if_neg h3, if_neg h4, if_neg h5] at h
    exact absurd rfl h
theorem putF_sized {mi mb nx : Int} {l : List Nd} (hc : Calm l) (hl : l.length ≤ 40) {base p : List UInt8} {k : Int} {data : List UInt8} {rf : Int} {ev : Go.Value} (hd : data.length ≤ 5000) (h : (putF mi mb nx l base p k data rf ev).2 = 0) (hrf : rf ≠ 0 ∨ k = 2 ∧ rf = 0) : Sized (putF mi mb nx l base p k data rf ev).1.2 := by
  unfold putF at h ⊢
  split at h
  · rename_i h1; exact absurd h h1
  rename_i h1
  rw [if_neg h1]
  split at h
  · cases h
  rename_i h2
  rw [if_neg h2]
  split at h
  · rename_i h3
    exact absurd h h3.1
  rename_i h3
  rw [if_neg h3]
  exact newF_sized hc hl (seek_short l base p false) hd h
theorem made_put {mi mb nx : Int} {l : List Nd} (h : okB mi mb nx l = true) (hn : nx < 1099511627776) {base p data : List UInt8} {k rf : Int} {ev : Go.Value} (hc : Calm l) (hl : l.length ≤ 40) (hk : k = 1 ∨ k = 2 ∨ k = 3) (hd : k = 2 → data = []) (hd3 : k = 3 → 1 ≤ data.length ∧ data.length ≤ 4095 ∧ data.all (fun c => c != 0) = true) (hrf : k ≠ 2 → rf ≠ 0) (hr2 : k = 2 → rf = 0) (hdl : data.length ≤ 5000) {data2 : List UInt8} (hdd : k ≠ 2 → data2 = data) :
    MadeT mi mb nx l base p data2 k (putF mi mb nx l base p k data rf ev) := by
  refine ⟨putF_bad, fun h0 => ?_⟩
  have hor : rf ≠ 0 ∨ k = 2 := by by_cases h2 : k = 2; exact .inr h2; exact .inl (hrf h2)
  obtain ⟨g1, g2, g3, g4, g5, g6, g7⟩ := put_sound (ok_sound h) hn hk hd hd3 hrf h0 hor
  refine ⟨sound_check g1, g2, g4, by rw [g3]; rfl, by rw [g3]; rfl, fun h2 => by rw [g3, hdd h2]; rfl, g5, g6, g7, putF_sized hc hl hdl h0 ?_⟩
  by_cases h2 : k = 2
  · exact .inr ⟨h2, hr2 h2⟩
  · exact .inl (hrf h2)
theorem made_sym {mi mb nx : Int} {l : List Nd} (h : okB mi mb nx l = true) (hn : nx < 1099511627776) {base p t : List UInt8} {ev : Go.Value} (hc : Calm l) (hl : l.length ≤ 40) (hdl : t.length ≤ 5000) : MadeT mi mb nx l base p t 3 (symF mi mb nx l base t p ev) := by
  unfold symF
  split
  · exact ⟨fun _ => rfl, fun h0 => (by cases h0)⟩
  rename_i h1
  split
  · exact ⟨fun _ => rfl, fun h0 => (by cases h0)⟩
  rename_i h2
  split
  · exact ⟨fun _ => rfl, fun h0 => (by cases h0)⟩
  rename_i h3
  refine made_put h hn hc hl (.inr (.inr rfl)) (fun e => absurd e (by decide)) (fun _ => ⟨?_, by omega, ?_⟩) (fun _ => by decide) (fun e => absurd e (by decide)) hdl (fun _ => rfl)
  · rcases Nat.eq_zero_or_pos t.length with e | e
    · exact absurd (List.length_eq_zero_iff.1 e) h1
    · exact e
  · rw [List.all_eq_true]
    intro c hc
    rw [bne_iff_ne]
    rintro rfl
    exact h3 (List.contains_iff_mem.2 hc)
end Go.Proofs.YtkipplkaffpkjaaGreat

/- What the statements on what is linked and taken away ask, as lists. No program's function. -/
set_option linter.unusedVariables false
set_option linter.unusedSimpArgs false
namespace Go.Proofs.YtkipplkaffpkjaaGreat

/-- The sizes of a table that is few, with room for one entry more. -/
structure Slim (L : List Nd) : Prop where
  len : L.length ≤ 40
  each : ∀ x ∈ L, x.ents.length ≤ 41 ∧ x.data.length ≤ 5000 ∧ shortP 300 x.ents
theorem few_each {l : List Nd} (h : fewN l = true) : l.length ≤ 40 ∧ ∀ x ∈ l, x.ents.length ≤ 40 ∧ x.data.length ≤ 5000 ∧ shortP 300 x.ents := by
  unfold fewN at h
  rw [Bool.and_eq_true, List.all_eq_true, decide_eq_true_eq] at h
  refine ⟨h.1, fun x hx => ?_⟩
  have := h.2 x hx
  unfold fewX at this
  simp only [Bool.and_eq_true, decide_eq_true_eq, List.all_eq_true] at this
  exact ⟨this.1.2, this.1.1, this.2⟩
theorem few_get {l : List Nd} (h : fewN l = true) (i : Int) : (getN l i).ents.length ≤ 40 ∧ (getN l i).data.length ≤ 5000 ∧ shortP 300 (getN l i).ents := by
  cases hh : hasN l i
  · rw [getN_none hh]; exact ⟨Nat.zero_le _, Nat.zero_le _, fun _ h => (nomatch h)⟩
  · exact (few_each h).2 _ (get_mem hh).1
theorem slim_ok {mi mb nx : Int} {L : List Nd} (h : SoundP mi mb nx L) (s : Slim L) : OkS mi mb nx L := by
  refine ⟨sound_check h, h.rise, fun x hx => ?_, fun x hx => ?_, by have := s.len; omega⟩
  · by_cases hk : x.kind = 2
    · exact h.tree.rights x hx hk
    · rw [h.tree.files x hx hk]; rfl
  · have := s.each x hx
    exact ⟨by omega, this.2.1, this.2.2⟩
theorem slim_few {l : List Nd} (h : fewN l = true) : Slim l := ⟨(few_each h).1, fun x hx => by have := (few_each h).2 x hx; exact ⟨by omega, this.2⟩⟩
theorem Slim.pairs {L : List Nd} (h : Slim L) : (pairsN L).length ≤ 1000000 := by
  have := pairs_few (L := L) (m := 41) fun x hx => (h.each x hx).1
  have h2 : L.length * 41 ≤ 40 * 41 := Nat.mul_le_mul_right _ h.len
  omega
theorem Slim.bytes {L : List Nd} (h : Slim L) : bytesN L ≤ 1000000 := by
  have := bytesN_few (l := L) (m := 5000) fun x hx => (h.each x hx).2.1
  have h2 : L.length * 5000 ≤ 40 * 5000 := Nat.mul_le_mul_right _ h.len
  omega
theorem ents_few {L : List Nd} {m : Nat} (h : ∀ x ∈ L, x.ents.length ≤ m) : entsN L ≤ L.length * m := by
  induction L with
  | nil => simp [entsN]
  | cons x r ih =>
    have h1 := ih fun y hy => h y (by simp [hy])
    have h2 := h x (by simp)
    have e : entsN (x :: r) = x.ents.length + entsN r := by simp [entsN]
    rw [e, List.length_cons, Nat.add_mul]
    omega
theorem list_slim {mi mb nx : Int} {L : List Nd} (h : SoundP mi mb nx L) (s : Slim L) : (listN L).length ≤ 1641 := by
  have e := list_exact h.tree
  have h1 := ents_few (L := L) (m := 41) fun x hx => (s.each x hx).1
  have h2 : L.length * 41 ≤ 40 * 41 := Nat.mul_le_mul_right _ s.len
  omega
theorem un_slim {mi mb nx : Int} {l : List Nd} {d i : Int} {n : List UInt8} {ev : Go.Value} (h : SoundP mi mb nx l) (hf : fewN l = true) (hg : Gone l d n i) : Slim (unL l d n i ev) := by
  have hd := few_get hf d
  have hi := few_get hf i
  refine ⟨Nat.le_trans (un_len h hg) (few_each hf).1, fun x hx => ?_⟩
  rcases un_mem h hg hx with ⟨rfl, _⟩ | rfl | ⟨hx, _⟩
  · exact ⟨by show (getN l i).ents.length ≤ 41; omega, hi.2⟩
  · refine ⟨?_, hd.2.1, fun e he => hd.2.2 e (mem_without.1 he).1⟩
    show (withoutB (getN l d).ents n).length ≤ 41
    have : (withoutB (getN l d).ents n).length ≤ (getN l d).ents.length := by
      unfold withoutB
      rw [List.length_append]
      exact parts_len _ _
    omega
  · have := (few_each hf).2 x hx
    exact ⟨by omega, this.2⟩
theorem na_slim {mi mb nx : Int} {l : List Nd} {d i : Int} {n : List UInt8} {ev : Go.Value} (h : SoundP mi mb nx l) (hf : fewN l = true) (hg : Given l d n i) : Slim (naL l d n i ev) := by
  have hd := few_get hf d
  have hi := few_get hf i
  refine ⟨?_, fun x hx => ?_⟩
  · have hdd := (dir_parts hg.dir).1
    have h5 : hasN (setN l (moreD (getN l d) n i ev)) i = true := by rw [has_set, hg.has]; simp
    unfold naL
    rw [len_set_has (set_rise _ h.rise) _ (by rw [link_ino hg.has]; exact h5), len_set_has h.rise _ (by rw [more_ino l hdd]; exact hdd)]
    exact (few_each hf).1
  rcases na_mem h hg hx with rfl | rfl | ⟨hx, _⟩
  · exact ⟨by show (getN l i).ents.length ≤ 41; omega, hi.2⟩
  · refine ⟨?_, hd.2.1, fun e he => ?_⟩
    · have := with_len (getN l d).ents n i
      show (withB (getN l d).ents n i).length ≤ 41
      omega
    · rcases mem_with.1 he with rfl | ⟨h, _⟩
      · have := may_len hg.may
        show n.length ≤ 300
        omega
      · exact hd.2.2 e h
  · have := (few_each hf).2 x hx
    exact ⟨by omega, this.2⟩

theorem spot_has {mi mb nx : Int} {l : List Nd} (h : SoundP mi mb nx l) {s : Sp} (hs : Spot l s) (h0 : s.ino ≠ 0) : hasN l s.ino = true := by
  by_cases hn : s.name = []
  · exact (dir_parts (hs.bare hn).1).1
  · obtain ⟨g1, g2, g3⟩ := hs.entry hn
    rw [decide_eq_true h0] at g3
    have h1 := (has_num h.tree g3).1
    rw [g2] at h1
    exact h.there _ (get_mem (dir_parts g1).1).1 _ h1
theorem spot_gone {mi mb nx : Int} {l : List Nd} (h : SoundP mi mb nx l) {s : Sp} (hs : Spot l s) (h0 : s.ino ≠ 0) (hn : s.name ≠ []) (hb : (getN l s.ino).ents = []) : Gone l s.dir s.name s.ino := by
  obtain ⟨g1, g2, g3⟩ := hs.entry hn
  rw [decide_eq_true h0] at g3
  have h1 := (has_num h.tree g3).1
  rw [g2] at h1
  exact ⟨h1, hb⟩
/-- What a call that links or takes away answers. -/
structure CutT (mi mb nx : Int) (l : List Nd) (m : Int) (Z : List Nd × Int) : Prop where
  bad : Z.2 ≠ 0 → Z.1 = l
  good : Z.2 = 0 → SoundP mi mb nx Z.1 ∧ Slim Z.1 ∧ ((listN Z.1).length : Int) = (listN l).length + m
/-- What a link is: an entry given. -/
structure LinkT (l : List Nd) (base src dst : List UInt8) (Z : List Nd × Int) (ev : Go.Value) (d i : Int) (n : List UInt8) : Prop where
  fro : ∃ sd sn, seekP l base src false = (⟨sd, sn, i⟩, 0)
  to_ : seekP l base dst false = (⟨d, n, 0⟩, 0)
  slash : slashB dst = false
  given : Given l d n i
  ans : Z.1 = naL l d n i ev
theorem link_ok {mi mb nx : Int} {l : List Nd} (h : SoundP mi mb nx l) {base src dst : List UInt8} {ev : Go.Value} (h0 : (linkF l base src dst ev).2 = 0) : ∃ d i n, LinkT l base src dst (linkF l base src dst ev) ev d i n := by
  have s1 := seek_spot h base src false
  have s2 := seek_spot h base dst false
  unfold linkF at h0 ⊢
  split at h0
  · rename_i c1; exact absurd h0 c1
  rename_i c1
  rw [if_neg c1]
  split at h0
  · cases h0
  rename_i c2
  rw [if_neg c2]
  split at h0
  · cases h0
  rename_i c3
  rw [if_neg c3]
  split at h0
  · rename_i c4; exact absurd h0 c4
  rename_i c4
  rw [if_neg c4]
  split at h0
  · cases h0
  rename_i c5
  rw [if_neg c5]
  split at h0
  · cases h0
  rename_i c6
  rw [if_neg c6]
  split at h0
  · cases h0
  rename_i c7
  rw [if_neg c7]
  have c1' : (seekP l base src false).2 = 0 := by simpa using c1
  have c4' : (seekP l base dst false).2 = 0 := by simpa using c4
  have c5' : (seekP l base dst false).1.ino = 0 := by simpa using c5
  have c6' : slashB dst = false := by simpa using c6
  have c7' : mayB (seekP l base dst false).1.name = true := by simpa using c7
  have p1 := s1.1 c1'
  have p2 := s2.1 c4'
  have hh := spot_has h p1 c2
  have hin := (get_mem hh).2
  obtain ⟨g1, g2, g3⟩ := p2.entry (mayB_good c7').2
  rw [hin]
  refine ⟨(seekP l base dst false).1.dir, (seekP l base src false).1.ino, (seekP l base dst false).1.name, ⟨_, _, Prod.ext rfl c1'⟩, Prod.ext ?_ c4', c6', ⟨g1, by rw [g3, c5']; rfl, c7', hh, c3⟩, rfl⟩
  show (seekP l base dst false).1 = ⟨_, _, 0⟩
  rw [← c5']
theorem link_bad {l : List Nd} {base src dst : List UInt8} {ev : Go.Value} (h0 : (linkF l base src dst ev).2 ≠ 0) : (linkF l base src dst ev).1 = l := by
  unfold linkF at h0 ⊢
  split
  · rfl
  split
  · rfl
  split
  · rfl
  split
  · rfl
  split
  · rfl
  split
  · rfl
  split
  · rfl
  · rename_i c1 c2 c3 c4 c5 c6 c7
    rw [if_neg c1, if_neg c2, if_neg c3, if_neg c4, if_neg c5, if_neg c6, if_neg c7] at h0
    exact absurd rfl h0
theorem link_cut {mi mb nx : Int} {l : List Nd} (h : okB mi mb nx l = true) {base src dst : List UInt8} {ev : Go.Value} : CutT mi mb nx l 1 (linkF l base src dst ev) := by
  refine ⟨link_bad, fun h0 => ?_⟩
  have hs := ok_sound h
  obtain ⟨d, i, n, t⟩ := link_ok hs h0
  rw [t.ans]
  exact ⟨na_sound hs t.given, na_slim hs (ok_parts h).1 t.given, by rw [na_list hs t.given]; omega⟩
/-- A name that was given and taken away again. -/
theorem link_back {mi mb nx : Int} {l : List Nd} (h : okB mi mb nx l = true) {base src dst : List UInt8} {ev : Go.Value} (h0 : (linkF l base src dst ev).2 = 0) (e2 : Go.Value) :
    (seekP (linkF l base src dst ev).1 base dst false).2 = 0 ∧ (seekP (linkF l base src dst ev).1 base src false).1.ino = (seekP (linkF l base src dst ev).1 base dst false).1.ino ∧
      (unlinkF (linkF l base src dst ev).1 base dst e2).2 = 0 ∧ onesB (unlinkF (linkF l base src dst ev).1 base dst e2).1 l = true := by
  have hs := ok_sound h
  obtain ⟨d, i, n, t⟩ := link_ok hs h0
  rw [t.ans]
  have hG := grown_na (ev := ev) hs t.given
  have k1 := seek_grown hs hG (.inr t.slash) t.to_
  obtain ⟨sd, sn, hsrc⟩ := t.fro
  have hi0 : i ≠ 0 := has_ne0 hs t.given.has
  have k2 := seek_kept hs hG (t := ⟨sd, sn, i⟩) hi0 hsrc
  have hb := na_back (ev := ev) hs t.given e2
  have hk : (getN (naL l d n i ev) i).kind ≠ 2 := by rw [na_get hs t.given, if_pos rfl]; exact t.given.leaf
  refine ⟨by rw [k1], by rw [k1, k2], ?_, ?_⟩
  · unfold unlinkF
    rw [k1]
    rw [if_neg (by simp), if_neg hi0, if_neg hk]
  · unfold unlinkF
    rw [k1]
    rw [if_neg (by simp), if_neg hi0, if_neg hk]
    exact decide_eq_true hb.2
theorem unlink_cut {mi mb nx : Int} {l : List Nd} (h : okB mi mb nx l = true) {base p : List UInt8} {ev : Go.Value} : CutT mi mb nx l (-1) (unlinkF l base p ev) := by
  have hs := ok_sound h
  have s1 := seek_spot hs base p false
  unfold unlinkF
  split
  · rename_i c1; exact ⟨fun _ => rfl, fun h0 => absurd h0 c1⟩
  rename_i c1
  split
  · exact ⟨fun _ => rfl, fun h0 => (by cases h0)⟩
  rename_i c2
  split
  · exact ⟨fun _ => rfl, fun h0 => (by cases h0)⟩
  rename_i c3
  have p1 := s1.1 (by simpa using c1)
  have hh := spot_has hs p1 c2
  have hn : (seekP l base p false).1.name ≠ [] := fun e => c3 (dir_parts (p1.bare e).1).2
  have hg := spot_gone hs p1 c2 hn (leaf_bare hs hh c3)
  refine ⟨fun h0 => absurd rfl h0, fun _ => ⟨un_sound hs hg, un_slim hs (ok_parts h).1 hg, ?_⟩⟩
  have := un_list (ev := ev) hs hg
  show ((listN (unL l _ _ _ ev)).length : Int) = _
  omega
theorem rmdir_cut {mi mb nx : Int} {l : List Nd} (h : okB mi mb nx l = true) {base p : List UInt8} {ev : Go.Value} : CutT mi mb nx l (-1) (rmdirF l base p ev) := by
  have hs := ok_sound h
  have s1 := seek_spot hs base p false
  unfold rmdirF
  split
  · rename_i c1; exact ⟨fun _ => rfl, fun h0 => absurd h0 c1⟩
  rename_i c1
  split
  · exact ⟨fun _ => rfl, fun h0 => (by cases h0)⟩
  rename_i c2
  split
  · exact ⟨fun _ => rfl, fun h0 => (by cases h0)⟩
  split
  · exact ⟨fun _ => rfl, fun h0 => (by cases h0)⟩
  split
  · exact ⟨fun _ => rfl, fun h0 => (by cases h0)⟩
  rename_i hn
  split
  · exact ⟨fun _ => rfl, fun h0 => (by cases h0)⟩
  rename_i hb
  have p1 := s1.1 (by simpa using c1)
  have hg := spot_gone hs p1 c2 hn (List.length_eq_zero_iff.1 (by omega))
  refine ⟨fun h0 => absurd rfl h0, fun _ => ⟨un_sound hs hg, un_slim hs (ok_parts h).1 hg, ?_⟩⟩
  have := un_list (ev := ev) hs hg
  show ((listN (unL l _ _ _ ev)).length : Int) = _
  omega
end Go.Proofs.YtkipplkaffpkjaaGreat

/- What the statements on what files hold ask, as lists. No program's function. -/
set_option linter.unusedVariables false
set_option linter.unusedSimpArgs false
namespace Go.Proofs.YtkipplkaffpkjaaGreat

theorem seek_plain_f {l : List Nd} {ns : List (List UInt8)} {s : Sp} {j : Int} (base : List UInt8) (hm : ns.all mayB = true) (h : Ends l rootS s ns j) (hl : (joinB ns).length ≤ 4095) (hk : (getN l j).kind ≠ 3) : seekP l base (joinB ns) true = (s, 0) := by
  have hg := mayB_all hm
  unfold seekP
  rw [if_neg (by simp [joinB]), if_neg (by rw [long_more (ms := []) hm (by simp) (by rw [namesB_join _ hg, List.append_nil]) hl]; simp), if_pos (by have := abs_join ns []; rwa [List.append_nil] at this), namesB_join _ hg, slash_join hg]
  have := on_way l true false 40 ns rootS s [] hm h.leads (.inr (.inl (by rw [h.ino]; exact hk)))
  rw [List.append_nil] at this
  rw [this, on_nil, if_neg (by simp)]
theorem stat_of {l : List Nd} {base p : List UInt8} {fo : Bool} {s : Sp} (h : seekP l base p fo = (s, 0)) (hh : hasN l s.ino = true) : statF l base p fo = (getN l s.ino, 0) := by
  unfold statF
  rw [h]
  dsimp only
  rw [if_neg (by simp), hh, if_neg (by simp)]
theorem kind_some {mi mb nx : Int} {l : List Nd} (h : SoundP mi mb nx l) {i : Int} (hi : hasN l i = true) : (getN l i).kind = 1 ∨ (getN l i).kind = 2 ∨ (getN l i).kind = 3 := by
  have := h.kind _ (get_mem hi).1
  unfold secondX at this
  split at this
  · rename_i e; exact .inr (.inl e)
  split at this
  · rename_i e; exact .inl e
  split at this
  · rename_i e; exact .inr (.inr e)
  · cases this
/-- What is read is a file's. -/
theorem read_ok {mi mb nx : Int} {l : List Nd} (h : OkS mi mb nx l) {base p : List UInt8} (h0 : (readF l base p).2 = 0) : ∃ i d n, seekP l base p true = (⟨d, n, i⟩, 0) ∧ hasN l i = true ∧ (getN l i).kind = 1 ∧ statF l base p true = (getN l i, 0) ∧ (readF l base p).1 = (getN l i).data := by
  have hs := sound_of h.check
  have hg := seek_good h base p
  unfold readF at h0 ⊢
  split at h0
  · rename_i c1; exact absurd h0 c1
  rename_i c1
  rw [if_neg c1]
  split at h0
  · cases h0
  rename_i c2
  rw [if_neg c2]
  have c1' : (statF l base p true).2 = 0 := by simpa using c1
  have e1 : (seekP l base p true).2 = 0 := by
    refine Decidable.byContradiction fun hn => ?_
    unfold statF at c1'
    rw [if_pos hn] at c1'
    exact hn c1'
  have e2 : hasN l (seekP l base p true).1.ino = true := by
    cases hh : hasN l (seekP l base p true).1.ino
    · unfold statF at c1'
      rw [if_neg (by simp [e1]), hh, if_pos rfl] at c1'
      cases c1'
    · rfl
  have hst := stat_of (s := (seekP l base p true).1) (Prod.ext rfl e1) e2
  have hgood := hg.1 e1
  generalize seekP l base p true = q at *
  obtain ⟨⟨d, n, i⟩, e⟩ := q
  dsimp only at e1 e2 hst hgood
  subst e1
  rw [hst] at c2
  dsimp only at c2
  have hk3 : (getN l i).kind ≠ 3 := by
    by_cases hn : n = []
    · exact fun _ => c2 (dir_parts (hgood.bare hn).1).2
    · exact (hgood.entry hn).2.2.2
  refine ⟨i, d, n, rfl, e2, ?_, hst, by rw [hst]⟩
  rcases kind_some hs e2 with h1 | h1 | h1
  · exact h1
  · exact absurd h1 c2
  · exact absurd h1 hk3
theorem read_bad {l : List Nd} {base p : List UInt8} (h0 : (readF l base p).2 ≠ 0) : (readF l base p).1 = [] := by
  unfold readF at h0 ⊢
  split
  · rfl
  split
  · rfl
  · rename_i c1 c2
    rw [if_neg c1, if_neg c2] at h0
    exact absurd rfl h0
theorem write_bad {mi mb : Int} {l : List Nd} {base p d : List UInt8} (h0 : (writeF mi mb l base p d).2 ≠ 0) : (writeF mi mb l base p d).1 = l := by
  unfold writeF setF at h0 ⊢
  split
  · rfl
  split
  · rfl
  · rename_i c1 c2
    rw [if_neg c1, if_neg c2] at h0
    exact absurd rfl h0
theorem write_of {mi mb : Int} {l : List Nd} {base p d : List UInt8} {i : Int} (hi : hasN l i = true) (h : statF l base p true = (getN l i, 0)) (hk : (getN l i).kind = 1) : writeF mi mb l base p d = setF mi mb l i d := by
  have h1 : (readF l base p).2 = 0 := by
    unfold readF
    rw [h]
    dsimp only
    rw [if_neg (by simp), if_neg (by rw [hk]; decide)]
  unfold writeF
  rw [if_neg (by simp [h1]), h]
  dsimp only
  rw [(get_mem hi).2]
theorem set_bad {mi mb : Int} {l : List Nd} {i : Int} {d : List UInt8} (h : (setF mi mb l i d).2 ≠ 0) : setF mi mb l i d = (l, 8) := by
  unfold setF at h ⊢
  split
  · rfl
  · rename_i c; rw [if_neg c] at h; exact absurd rfl h
theorem set_good {mi mb : Int} {l : List Nd} {i : Int} {d : List UInt8} (h : (setF mi mb l i d).2 = 0) : setF mi mb l i d = (dataL l i d, 0) ∧ fitsB mi mb l 0 ((d.length : Int) - ((getN l i).data.length : Int)) = true := by
  unfold setF at h ⊢
  split at h
  · cases h
  · rename_i c; rw [if_neg c]; exact ⟨rfl, by simpa using c⟩
theorem data_ok {mi mb nx : Int} {l : List Nd} {i : Int} {d : List UInt8} (h : okB mi mb nx l = true) (hi : hasN l i = true) (hk : (getN l i).kind = 1) (hf : fitsB mi mb l 0 ((d.length : Int) - ((getN l i).data.length : Int)) = true) (hd : d.length ≤ 5000) : okB mi mb nx (dataL l i d) = true := by
  have hs := ok_sound h
  have hw := (ok_parts h).1
  have he := few_get hw i
  unfold okB
  rw [Bool.and_eq_true, decide_eq_true_eq]
  refine ⟨?_, sound_check (data_sound hs hi hk hf)⟩
  unfold fewN
  rw [Bool.and_eq_true, decide_eq_true_eq, List.all_eq_true, data_len hs hi]
  refine ⟨(few_each hw).1, fun x hx => ?_⟩
  have hx2 : x.ents.length ≤ 40 ∧ x.data.length ≤ 5000 ∧ shortP 300 x.ents := by
    rcases mem_setN hx with rfl | hx
    · exact ⟨he.1, hd, he.2.2⟩
    · exact (few_each hw).2 x hx
  unfold fewX
  simp only [Bool.and_eq_true, decide_eq_true_eq, List.all_eq_true]
  exact ⟨⟨hx2.2.1, hx2.1⟩, hx2.2.2⟩
/-- What a path of the walk that comes to a file reads, once a file was written. -/
theorem read_entry {mi mb nx : Int} {l : List Nd} {i : Int} {d : List UInt8} (h : okB mi mb nx l = true) (hi : hasN l i = true) (hk : (getN l i).kind = 1) {k : Nat} (hkl : k < (listN l).length) (hl : (listN l)[k].1.length ≤ 4095) (hkd : (getN l (listN l)[k].2).kind = 1) :
    readF (dataL l i d) [47] (listN l)[k].1 = (if (listN l)[k].2 = i then d else (getN l (listN l)[k].2).data, 0) := by
  have hs := ok_sound h
  have A := data_alike (data := d) hs hi hk
  obtain ⟨ns, s, h1, h2, h3, _⟩ := list_at (tree_of h) hkl
  rw [h2] at hl ⊢
  have hsk := seek_plain_f [47] h1 h3 hl (by rw [hkd]; decide)
  rw [← seek_alike A] at hsk
  generalize (listN l)[k].2 = j at *
  have hij := h3.ino
  have hh : hasN (dataL l i d) s.ino = true := by
    unfold dataL
    rw [has_set, hij, h3.has]; simp
  have hst := stat_of hsk hh
  have hg := data_get (data := d) hs hi s.ino
  unfold readF
  rw [hst]
  dsimp only
  rw [if_neg (by simp), hg, hij]
  by_cases e : j = i
  · subst e
    rw [if_pos rfl, if_pos rfl, if_neg (by show ¬ (getN l j).kind = 2; rw [hk]; decide)]
  · rw [if_neg e, if_neg e, if_neg (by rw [hkd]; decide)]
/-- What was there, written back. -/
theorem write_back {mi mb nx : Int} {l : List Nd} {base p : List UInt8} {i : Int} {d : List UInt8} {dd : Int} {n : List UInt8} (h : okB mi mb nx l = true) (hi : hasN l i = true) (hk : (getN l i).kind = 1) (hsk : seekP l base p true = (⟨dd, n, i⟩, 0)) :
    writeF mi mb (dataL l i d) base p (getN l i).data = (dataL (dataL l i d) i (getN l i).data, 0) := by
  have hs := ok_sound h
  have A := data_alike (data := d) hs hi hk
  have hsk2 := hsk
  rw [← seek_alike A] at hsk2
  have hh : hasN (dataL l i d) i = true := by
    unfold dataL
    rw [has_set, hi]; simp
  have hst := stat_of hsk2 hh
  have hg := data_get (data := d) hs hi i
  rw [if_pos rfl] at hg
  rw [write_of hh hst (by rw [hg]; exact hk)]
  unfold setF
  rw [if_neg]
  have hfit := hs.fits
  unfold fitsB at hfit ⊢
  have hb := bytes_set hs.rise { getN l i with data := d }
  rw [data_ino hi] at hb
  rw [costN_yes hk, costN_yes (show ({ getN l i with data := d } : Nd).kind = 1 from hk)] at hb
  rw [data_len hs hi, hg]
  simp only [Bool.and_eq_true, decide_eq_true_eq] at hfit
  rw [show bytesN (dataL l i d) = bytesN (setN l { getN l i with data := d }) from rfl]
  have e2 : ({ getN l i with data := d } : Nd).data.length = d.length := rfl
  simp only [Bool.not_eq_false, Bool.and_eq_true, decide_eq_true_eq]
  dsimp only at hb ⊢
  omega
end Go.Proofs.YtkipplkaffpkjaaGreat

/- What plain paths lead to, in a sound file system: is it there? No program's function. -/
set_option linter.unusedVariables false
set_option linter.unusedSimpArgs false
namespace Go.Proofs.YtkipplkaffpkjaaGreat

theorem ok_zero {mi mb nx : Int} {l : List Nd} (h : OkS mi mb nx l) : hasN l 0 = false := by
  obtain ⟨h1, _⟩ := check_parts h.check
  unfold firstB at h1
  rw [Bool.and_eq_true, Bool.and_eq_true, List.all_eq_true] at h1
  cases hh : hasN l 0
  · rfl
  · obtain ⟨hm, hi⟩ := get_mem hh
    have := h1.1.2 _ hm
    unfold inoB at this
    rw [Bool.and_eq_true, decide_eq_true_eq, decide_eq_true_eq, hi] at this
    omega
/-- What a path leads to is there, but for the last name's. -/
def LeadsIn (l : List Nd) (p : List UInt8) : Prop := (atP l p).2 = 0 → hasN l (atP l p).1.ino = decide ((atP l p).1.ino ≠ 0)
theorem num_hasB {es : List Ent} (h : rightB es = true) (n : List UInt8) : hasB es n = decide (numB es n ≠ 0) := by
  rw [has_find]
  unfold numB
  cases hf : es.find? (fun e => e.1 == n) with
  | none => rfl
  | some e =>
    have hm := List.mem_of_find?_eq_some hf
    have := ((rightB_iff es).1 h).1 e hm
    unfold goodE at this
    rw [Bool.and_eq_true, decide_eq_true_eq] at this
    simp; omega
theorem step_in {l : List Nd} (t : Tree l) (h0 : hasN l 0 = false) (i : Int) (n : List UInt8) : hasN l (stepS l i n).ino = decide ((stepS l i n).ino ≠ 0) := by
  show hasN l (numB (getN l i).ents n) = decide (numB (getN l i).ents n ≠ 0)
  unfold numB
  cases hf : (getN l i).ents.find? (fun e => e.1 == n) with
  | none => simpa using h0
  | some e =>
    have hm := List.mem_of_find?_eq_some hf
    have hp := ent_pos t e hm
    have hd := (get_mem (ent_dir t hm).2).1
    have ht := t.there _ hd e hm
    show hasN l e.2 = _
    rw [ht]
    simp; omega
theorem at_in {l : List Nd} (t : Tree l) (h0 : hasN l 0 = false) (ns : List (List UInt8)) : ∀ s q : Sp, hasN l s.ino = decide (s.ino ≠ 0) → atN l s ns = (q, 0) → hasN l q.ino = decide (q.ino ≠ 0) := by
  induction ns with
  | nil =>
    intro s q hs h
    rw [show q = s from (Prod.mk.inj h).1.symm]; exact hs
  | cons n r ih =>
    intro s q hs h
    by_cases hz : s.ino = 0
    · rw [at_gone hz] at h; cases h
    · by_cases hk : (getN l s.ino).kind = 2
      · rw [at_on hz hk] at h
        exact ih _ q (step_in t h0 _ _) h
      · rw [at_file hz hk] at h; cases h
theorem leads_in {mi mb nx : Int} {l : List Nd} (h : OkS mi mb nx l) (p : List UInt8) : LeadsIn l p := by
  intro he
  have t := tree_c h.check
  unfold atP at he ⊢
  cases hp : plainB p with
  | none => rw [hp] at he; exact absurd (show (9 : Int) = 0 from he) (by decide)
  | some ns =>
    rw [hp] at he
    dsimp only at he ⊢
    exact at_in t (ok_zero h) ns rootS _ (by rw [show rootS.ino = 1 from rfl, t.root]; rfl) (Prod.ext rfl he)
/-- The directory in which a path's last name is looked for is there. -/
theorem at_dir {l : List Nd} (ns : List (List UInt8)) : ∀ s q : Sp, (s.dir ≠ 0 → hasN l s.dir = true) → atN l s ns = (q, 0) → q.dir ≠ 0 → hasN l q.dir = true := by
  induction ns with
  | nil =>
    intro s q hs h
    rw [show q = s from (Prod.mk.inj h).1.symm]; exact hs
  | cons n r ih =>
    intro s q hs h
    by_cases hz : s.ino = 0
    · rw [at_gone hz] at h; cases h
    · by_cases hk : (getN l s.ino).kind = 2
      · rw [at_on hz hk] at h
        refine ih _ q (fun _ => ?_) h
        show hasN l (getN l s.ino).ino = true
        cases hh : hasN l s.ino
        · rw [getN_none hh] at hk; cases hk
        · rw [(get_mem hh).2]; exact hh
      · rw [at_file hz hk] at h; cases h
theorem path_dir {l : List Nd} {p : List UInt8} (he : (atP l p).2 = 0) (hd : (atP l p).1.dir ≠ 0) : hasN l (atP l p).1.dir = true := by
  unfold atP at he hd ⊢
  cases hp : plainB p with
  | none => rw [hp] at he; exact absurd (show (9 : Int) = 0 from he) (by decide)
  | some ns =>
    rw [hp] at he hd
    dsimp only at he hd ⊢
    exact at_dir ns rootS _ (fun h => absurd rfl h) (Prod.ext rfl he) hd
theorem at_name {l : List Nd} {b : Nat} (ns : List (List UInt8)) : ∀ s : Sp, s.name.length ≤ b → (∀ n ∈ ns, n.length ≤ b) → (atN l s ns).1.name.length ≤ b := by
  induction ns with
  | nil => intro s hs _; exact hs
  | cons n r ih =>
    intro s hs hn
    by_cases hz : s.ino = 0
    · rw [at_gone hz]; exact Nat.zero_le _
    · by_cases hk : (getN l s.ino).kind = 2
      · rw [at_on hz hk]
        exact ih _ (hn n (by simp)) fun m hm => hn m (by simp [hm])
      · rw [at_file hz hk]; exact Nat.zero_le _
theorem at_name_len {l : List Nd} {p : List UInt8} (hp : p.length ≤ 50000) : (atP l p).1.name.length ≤ 100000000 := by
  unfold atP
  cases hq : plainB p with
  | none => exact Nat.zero_le _
  | some ns =>
    have h := (plainB_yes hq).2.2
    refine at_name ns rootS (Nat.zero_le _) fun n hn => ?_
    rw [← h] at hn
    exact Nat.le_trans (namesB_size p n hn) (by omega)
end Go.Proofs.YtkipplkaffpkjaaGreat

/- The way on, reckoned: with steps counted, so that it can be run. No program's function. -/
set_option linter.unusedVariables false
set_option linter.unusedSimpArgs false
namespace Go.Proofs.YtkipplkaffpkjaaGreat

def onF (l : List Nd) (fo : Bool) : Nat → Nat → Sp → List (List UInt8) → Bool → Option (Sp × Int)
  | 0, _, _, _, _ => none
  | k + 1, g, s, todo, dir =>
    match todo with
    | [] => some (if (hasN l s.ino && dir && (getN l s.ino).kind != 2) = true then (zeroS, 3) else (s, 0))
    | n :: r =>
      if s.ino = 0 then some (zeroS, 1)
      else if (getN l s.ino).kind = 2 then
        if n = [46] then onF l fo k g ⟨0, [], (getN l s.ino).ino⟩ r dir
        else if n = [46, 46] then onF l fo k g ⟨0, [], (getN l s.ino).parent⟩ r dir
        else if stopB l fo dir s.ino n r = true then onF l fo k g (stepS l s.ino n) r dir
        else match g with
          | 0 => some (zeroS, 6)
          | g + 1 => if longB (lnkD l s.ino n) = true then some (zeroS, 7)
            else onF l fo k g ⟨0, [], if absB (lnkD l s.ino n) = true then 1 else (getN l s.ino).ino⟩ (namesB (lnkD l s.ino n) ++ r) (dir || (slashB (lnkD l s.ino n) && r.isEmpty))
      else some (zeroS, 3)
theorem onF_eq {l : List Nd} {fo : Bool} (k : Nat) : ∀ {g : Nat} {s : Sp} {todo : List (List UInt8)} {dir : Bool} {r : Sp × Int}, onF l fo k g s todo dir = some r → onN l fo g s todo dir = r := by
  induction k with
  | zero => intro g s todo dir r h; cases h
  | succ k ih =>
    intro g s todo dir r h
    cases todo with
    | nil => rw [on_nil]; exact Option.some.inj h
    | cons n t =>
      unfold onF at h
      dsimp only at h
      by_cases h0 : s.ino = 0
      · rw [if_pos h0] at h; rw [on_gone h0]; exact Option.some.inj h
      rw [if_neg h0] at h
      by_cases hk : (getN l s.ino).kind = 2
      · rw [if_pos hk] at h
        by_cases h1 : n = [46]
        · rw [if_pos h1] at h; rw [on_dot h0 hk h1]; exact ih h
        rw [if_neg h1] at h
        by_cases h2 : n = [46, 46]
        · rw [if_pos h2] at h; rw [on_dots h0 hk h2]; exact ih h
        rw [if_neg h2] at h
        cases h3 : stopB l fo dir s.ino n t
        · rw [if_neg (by rw [h3]; simp)] at h
          cases g with
          | zero => rw [on_loop h0 hk h1 h2 h3]; exact Option.some.inj h
          | succ g =>
            cases h4 : longB (lnkD l s.ino n)
            · dsimp only at h
              rw [if_neg (by rw [h4]; simp)] at h
              rw [on_link h0 hk h1 h2 h3 h4]; exact ih h
            · dsimp only at h
              rw [if_pos h4] at h
              rw [on_long h0 hk h1 h2 h3 h4]; exact Option.some.inj h
        · rw [if_pos h3] at h
          rw [on_stop h0 hk h1 h2 h3]; exact ih h
      · rw [if_neg hk] at h; rw [on_file h0 hk]; exact Option.some.inj h
def seekF (k : Nat) (l : List Nd) (base p : List UInt8) (fo : Bool) : Option (Sp × Int) :=
  if p = [] then some (zeroS, 1) else if longB p = true then some (zeroS, 7)
  else if absB p = true then onF l fo k 40 rootS (namesB p) (slashB p)
  else if (homeP l base).2 ≠ 0 then some (zeroS, (homeP l base).2)
  else onF l fo k 40 ⟨0, [], (homeP l base).1⟩ (namesB p) (slashB p)
theorem seekF_eq (k : Nat) {l : List Nd} {base p : List UInt8} {fo : Bool} {r : Sp × Int} (h : seekF k l base p fo = some r) : seekP l base p fo = r := by
  unfold seekF at h
  unfold seekP
  split
  · rename_i h0; rw [if_pos h0] at h; exact Option.some.inj h
  rename_i h0
  rw [if_neg h0] at h
  split
  · rename_i h1; rw [if_pos h1] at h; exact Option.some.inj h
  rename_i h1
  rw [if_neg h1] at h
  split
  · rename_i h2; rw [if_pos h2] at h; exact onF_eq k h
  rename_i h2
  rw [if_neg h2] at h
  split
  · rename_i h3; rw [if_pos h3] at h; exact Option.some.inj h
  rename_i h3
  rw [if_neg h3] at h; exact onF_eq k h
end Go.Proofs.YtkipplkaffpkjaaGreat

/- What is read and what is set, reckoned. No program's function. -/
set_option linter.unusedVariables false
set_option linter.unusedSimpArgs false
namespace Go.Proofs.YtkipplkaffpkjaaGreat

def statE (r : Sp × Int) (l : List Nd) : Nd × Int := if r.2 ≠ 0 then (zeroN, r.2) else if hasN l r.1.ino = false then (zeroN, 1) else (getN l r.1.ino, 0)
def readE (x : Nd × Int) : List UInt8 × Int := if x.2 ≠ 0 then ([], x.2) else if x.1.kind = 2 then ([], 4) else (x.1.data, 0)
def rdlnkE (x : Nd × Int) : List UInt8 × Int := if x.2 ≠ 0 then ([], x.2) else if x.1.kind ≠ 3 then ([], 9) else (x.1.data, 0)
def writeE (mi mb : Int) (x : Nd × Int) (l : List Nd) (d : List UInt8) : List Nd × Int := if (readE x).2 ≠ 0 then (l, (readE x).2) else setF mi mb l x.1.ino d
theorem statF_eq (n : Nat) {l : List Nd} {base p : List UInt8} {fo : Bool} {r : Sp × Int} (h : seekF n l base p fo = some r) : statF l base p fo = statE r l := by unfold statF statE; rw [seekF_eq n h]
theorem readF_eq (n : Nat) {l : List Nd} {base p : List UInt8} {r : Sp × Int} (h : seekF n l base p true = some r) : readF l base p = readE (statE r l) := by unfold readF readE; rw [statF_eq n h]
theorem rdlnkF_eq (n : Nat) {l : List Nd} {base p : List UInt8} {r : Sp × Int} (h : seekF n l base p false = some r) : rdlnkF l base p = rdlnkE (statE r l) := by unfold rdlnkF rdlnkE; rw [statF_eq n h]
theorem writeF_eq (n : Nat) {mi mb : Int} {l : List Nd} {base p d : List UInt8} {r : Sp × Int} (h : seekF n l base p true = some r) : writeF mi mb l base p d = writeE mi mb (statE r l) l d := by unfold writeF writeE; rw [readF_eq n h, statF_eq n h]
end Go.Proofs.YtkipplkaffpkjaaGreat

/- Walks: the document's Same. -/
set_option linter.unusedVariables false
set_option linter.unusedSimpArgs false
namespace Go.Proofs.YtkipplkaffpkjaaGreat
open Go.RowKit

theorem refSame_any (la lb : List Ent) (va vb : Value) (w : World) (ha : Ents w va la) (hb : Ents w vb lb) :
    Calls Tryz.prog 33 #[va, vb] w fun e w' => e = .returned (.bool (decide (la = lb))) ∧ Below w.heap.size w w' := by
  obtain ⟨a, ca, rfl, hca, hma, HA⟩ := ha
  obtain ⟨b, cb, rfl, hcb, hmb, HB⟩ := hb
  unfold maxLen at hma hmb
  by_cases hl : la.length = lb.length
  · have HA' := Lib.hid HA
    have HB' := Lib.hid HB
    clear HA HB
    have hne : ((la.length : Int) != (lb.length : Int)) = false := by simp; omega
    have HL := Lib.hid hl
    have hl2 : la.length ≤ lb.length := by omega
    clear hl
    go_enter Tryz.func33, Tryz.ntmps33
    go_wp2
    go_loopw [5] (fun i wr => ∃ k : Nat, k ≤ la.length ∧ i = .int .i64 k ∧ Aside (la.take k = lb.take k) ∧ Below w.heap.size w wr) (fun i _ => la.length - (intOf i).toNat)
    case atStart => exact ⟨0, Nat.zero_le _, rfl, rfl, Below.refl _ _⟩
    case round =>
      obtain ⟨k, hk, rfl, HT, hbw⟩ := hrel
      by_cases hlt : k < la.length
      · have hltb : k < lb.length := by omega
        obtain ⟨ba, oa, rfl, hba, hxa⟩ := HA'.out (by omega)
        obtain ⟨bb, ob, rfl, hbb, hxb⟩ := HB'.out (by omega)
        have c1 : wr.cell? ⟨ba, oa + k * 2, none⟩ = some (.string ⟨la[k].1.toArray⟩) := (hbw.cell (p := ⟨ba, oa + k * 2, none⟩) hba).trans (hxa k hlt).1
        have c2 : wr.cell? ⟨ba, oa + k * 2 + 1, none⟩ = some (.int .i64 la[k].2) := (hbw.cell (p := ⟨ba, oa + k * 2 + 1, none⟩) hba).trans (hxa k hlt).2
        have c3 : wr.cell? ⟨bb, ob + k * 2, none⟩ = some (.string ⟨lb[k].1.toArray⟩) := (hbw.cell (p := ⟨bb, ob + k * 2, none⟩) hbb).trans (hxb k hltb).1
        have c4 : wr.cell? ⟨bb, ob + k * 2 + 1, none⟩ = some (.int .i64 lb[k].2) := (hbw.cell (p := ⟨bb, ob + k * 2 + 1, none⟩) hbb).trans (hxb k hltb).2
        clear hxa hxb
        have k0 : (0 : Int) ≤ (k : Int) := by omega
        have k1 : (k : Int) < (la.length : Int) := by omega
        have k2 : (k : Int) < (lb.length : Int) := by omega
        cases he : la[k].1 == lb[k].1
        · have hne2 : Hid (decide (la = lb) = false) := by
            show _ = _
            rw [decide_eq_false_iff_not]
            intro e
            subst e
            simp at he
          go_wp2
          go_quiet (fail)
          go_wp2
          go_ret
          exact ⟨by rw [hne2.out]; rfl, below_drewN hbw _⟩
        · cases hn : la[k].2 == lb[k].2
          · have hne2 : Hid (decide (la = lb) = false) := by
              show _ = _
              rw [decide_eq_false_iff_not]
              intro e
              subst e
              simp at hn
            go_wp2
            go_quiet (fail)
            go_wp2
            go_ret
            exact ⟨by rw [hne2.out]; rfl, below_drewN hbw _⟩
          · have HT2 : Hid (la.take (k + 1) = lb.take (k + 1)) := by
              show _ = _
              rw [List.take_succ_eq_append_getElem hlt, List.take_succ_eq_append_getElem hltb, HT.out]
              rw [beq_iff_eq] at he hn
              rw [show la[k] = lb[k] from Prod.ext he hn]
            go_wp2
            go_quiet (fail)
            go_wp2
            go_roundw
            case rel => exact ⟨k + 1, by omega, by go_num, HT2.out, below_drewN hbw _⟩
            case measure => simp [intOf]; omega
      · obtain rfl : k = la.length := by omega
        have heq : Hid (decide (la = lb) = true) := by
          show _ = _
          rw [decide_eq_true_eq]
          have := HT.out
          rw [List.take_length, HL.out, List.take_length] at this
          exact this
        clear HT
        go_wp2
        go_ret
        exact ⟨by rw [heq.out]; rfl, hbw⟩
  · have hne : ((la.length : Int) != (lb.length : Int)) = true := by rw [bne_iff_ne]; omega
    have hd : Hid (decide (la = lb) = false) := by
      show _ = _
      rw [decide_eq_false_iff_not]; rintro rfl; exact hl rfl
    clear HA HB
    go_enter Tryz.func33, Tryz.ntmps33
    go_wp2
    go_ret
    exact ⟨by rw [hd.out]; rfl, Below.refl _ _⟩
end Go.Proofs.YtkipplkaffpkjaaGreat
