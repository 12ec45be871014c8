/- Texts put together: Drop12, Name12, Data13, Move14, Pure11, Pure12, Short10, Bound11, Pure12b, Pure12d, Pure14, Pure13, Shelf, WalkA05, WalkB05. -/
import Derived.Test.YtkdmfeikikmiiaaGreatVMList11
import Derived.Shelf.Strings.Builder1
import Derived.Shelf.Small.Utf8
import Derived.Shelf.Small.Strs
import Derived.Shelf.Small.Wraps
import Derived.Shelf.Strings.BuilderF
import Derived.Shelf.Strings.BuilderK
import Derived.Shelf.LaysM
import Derived.Shelf.Strconv.Clone
import Derived.Shelf.Strings.Search1
import Derived.Shelf.Strings.Search2
import Derived.Shelf.Strings.Search3
import Derived.Shelf.Strings.Cut
import Derived.Shelf.Strings.Shaped
import Derived.Shelf.Strings.Prefix
import Derived.Shelf.Strings.Runes
import Derived.Shelf.Strings.IndexAny
import Derived.Shelf.Strings.AsciiSet
import Derived.Shelf.Strings.IndexAnyAll
import Derived.Shelf.Strings.BuilderCap
import Derived.Ground.Names2Prog
import Derived.Shelf.Slices.SearchI
import Derived.Test.YtkdmfeikikmiiaaGreatProg
import Derived.Test.YtkdmfeikikmiiaaGreatChecked
import Derived.Deep.LoopGhost
import Derived.Lib.Small
import Derived.OwnWalk
import Derived.Lib.AppendZerosOnto
import Derived.Lib.SliceRun
import Derived.Lib.Walk
set_option linter.unusedVariables false
set_option linter.unusedSimpArgs false
namespace Go.Proofs.YtkdmfeikikmiiaaGreat
def lessD (x : Nd) (n : List UInt8) (ev : Go.Value) : Nd := { x with ents := withoutB x.ents n, ev := ev }
def linkX (x : Nd) (k : Int) : Nd := { x with links := k }
def unL (l : List Nd) (d : Int) (n : List UInt8) (i : Int) (ev : Go.Value) : List Nd :=
  if (getN l i).links - 1 = 0 then dropN (setN l (lessD (getN l d) n ev)) i else setN (setN l (lessD (getN l d) n ev)) (linkX (getN l i) ((getN l i).links - 1))
/-- What may be taken away. -/
structure Gone (l : List Nd) (d : Int) (n : List UInt8) (i : Int) : Prop where
  ent : (n, i) ∈ (getN l d).ents
  bare : (getN l i).ents = []
theorem less_cnt {x : Nd} {n : List UInt8} {i : Int} {ev : Go.Value} (hs : sortP x.ents) (h : (n, i) ∈ x.ents) (j : Int) : cntE j (lessD x n ev) + (if i = j then 1 else 0) = cntE j x := by
  unfold cntE
  have := ((without_perm hs h).map (·.2)).count_eq j
  rw [this, show (lessD x n ev).ents = withoutB x.ents n from rfl, List.map_cons, List.count_cons]
  by_cases hij : i = j
  · rw [if_pos hij, if_pos (by simpa using hij)]
  · rw [if_neg hij, if_neg (by simpa using hij)]
section
variable {mi mb nx : Int} {l : List Nd} {d : Int} {n : List UInt8} {i : Int} {ev : Go.Value}
theorem gone_ne (hg : Gone l d n i) : i ≠ d := by
  intro e
  have h1 := hg.ent
  rw [← e, hg.bare] at h1; cases h1
theorem gone_dir (h : SoundP mi mb nx l) (hg : Gone l d n i) : isDir l d = true := by
  have := ent_dir h.tree hg.ent
  exact dir_mk this.2 this.1
theorem gone_has (h : SoundP mi mb nx l) (hg : Gone l d n i) : hasN l i = true := h.there _ (get_mem (ents_has hg.ent)).1 _ hg.ent
theorem less_ino (hd : hasN l d = true) : (lessD (getN l d) n ev).ino = d := (get_mem hd).2
theorem link_ino (hi : hasN l i = true) (k : Int) : (linkX (getN l i) k).ino = i := (get_mem hi).2
theorem un_rise (h : SoundP mi mb nx l) : riseP (unL l d n i ev) := by
  unfold unL
  split
  · exact drop_rise _ (set_rise _ h.rise)
  · exact set_rise _ (set_rise _ h.rise)
theorem un_get (h : SoundP mi mb nx l) (hg : Gone l d n i) (k : Int) : getN (unL l d n i ev) k = if k = i then (if (getN l i).links - 1 = 0 then zeroN else linkX (getN l i) ((getN l i).links - 1)) else if k = d then lessD (getN l d) n ev else getN l k := by
  have hd := (dir_parts (gone_dir h hg)).1
  have hi := gone_has h hg
  unfold unL
  by_cases hl : (getN l i).links - 1 = 0
  · rw [if_pos hl, if_pos hl, get_drop (set_rise _ h.rise), get_set h.rise, less_ino hd]
  · rw [if_neg hl, if_neg hl, get_set (set_rise _ h.rise), get_set h.rise, less_ino hd, link_ino hi]
theorem un_has (h : SoundP mi mb nx l) (hg : Gone l d n i) (k : Int) : hasN (unL l d n i ev) k = if k = i then decide ((getN l i).links - 1 ≠ 0) else hasN l k := by
  have hd := (dir_parts (gone_dir h hg)).1
  have hi := gone_has h hg
  unfold unL
  by_cases hl : (getN l i).links - 1 = 0
  · rw [if_pos hl, has_drop, has_set, less_ino hd]
    by_cases hk : k = i
    · rw [if_pos hk, hk]; simp [hl]
    · rw [if_neg hk, decide_eq_true hk, Bool.true_and]
      by_cases hkd : k = d
      · rw [hkd, hd]; simp
      · rw [decide_eq_false hkd, Bool.false_or]
  · rw [if_neg hl, has_set, has_set, less_ino hd, link_ino hi]
    by_cases hk : k = i
    · rw [if_pos hk, hk]; simp [hl]
    · rw [if_neg hk, decide_eq_false hk, Bool.false_or]
      by_cases hkd : k = d
      · rw [hkd, hd]; simp
      · rw [decide_eq_false hkd, Bool.false_or]
theorem un_names (h : SoundP mi mb nx l) (hg : Gone l d n i) (j : Int) : namesN (unL l d n i ev) j + (if i = j then 1 else 0) = namesN l j := by
  have hd := (dir_parts (gone_dir h hg)).1
  have hi := gone_has h hg
  have hne := gone_ne hg
  have h2 := names_set h.rise (lessD (getN l d) n ev) j
  have h3 := less_cnt (ev := ev) (dir_sort h d) hg.ent j
  rw [less_ino hd] at h2
  have h4 : cntE j (getN l i) = 0 := by unfold cntE; rw [hg.bare]; rfl
  have h5 : getN (setN l (lessD (getN l d) n ev)) i = getN l i := by rw [get_set h.rise, less_ino hd, if_neg hne]
  unfold unL
  split
  · have h1 := names_drop (set_rise (lessD (getN l d) n ev) h.rise) i j
    rw [h5] at h1
    omega
  · have h1 := names_set (set_rise (lessD (getN l d) n ev) h.rise) (linkX (getN l i) ((getN l i).links - 1)) j
    rw [link_ino hi, h5, show cntE j (linkX (getN l i) ((getN l i).links - 1)) = cntE j (getN l i) from rfl] at h1
    omega
theorem un_mem (h : SoundP mi mb nx l) (hg : Gone l d n i) {y : Nd} (hy : y ∈ unL l d n i ev) : (y = linkX (getN l i) ((getN l i).links - 1) ∧ (getN l i).links - 1 ≠ 0) ∨ y = lessD (getN l d) n ev ∨ (y ∈ l ∧ y.ino ≠ d ∧ y.ino ≠ i) := by
  have hd := (dir_parts (gone_dir h hg)).1
  have hi := gone_has h hg
  unfold unL at hy
  split at hy
  · obtain ⟨hy, h1⟩ := mem_drop.1 hy
    rcases mem_set.1 hy with e | ⟨hy, h2⟩
    · exact .inr (.inl e)
    · rw [less_ino hd] at h2; exact .inr (.inr ⟨hy, h2, h1⟩)
  · rename_i hl
    rcases mem_set.1 hy with e | ⟨hy, h1⟩
    · exact .inl ⟨e, hl⟩
    · rw [link_ino hi] at h1
      rcases mem_set.1 hy with e | ⟨hy, h2⟩
      · exact .inr (.inl e)
      · rw [less_ino hd] at h2; exact .inr (.inr ⟨hy, h2, h1⟩)
theorem gone_one (h : SoundP mi mb nx l) (hg : Gone l d n i) : i ≠ 1 := by
  intro e
  have := names_pos hg.ent
  rw [e, h.noRoot] at this; omega
theorem un_keep (h : SoundP mi mb nx l) (hg : Gone l d n i) {k : Int} {e : Ent} (he : e ∈ (getN l k).ents) (hne : e.2 ≠ i) : e ∈ (getN (unL l d n i ev) k).ents := by
  rw [un_get h hg, if_neg (by intro e2; rw [e2, hg.bare] at he; cases he)]
  split
  · rename_i e2
    subst e2
    refine mem_without.2 ⟨he, fun e3 => hne ?_⟩
    have h1 := (num_mem (ents_pair h.tree k) he).1
    have h2 := (num_mem (ents_pair h.tree k) hg.ent).1
    rw [e3] at h1
    exact h1.symm.trans h2
  · exact he
theorem un_reach (h : SoundP mi mb nx l) (hg : Gone l d n i) {k : Int} (hk : Reach l k) : k ≠ i → Reach (unL l d n i ev) k := by
  induction hk with
  | root => intro _; exact .root
  | step _ he ih =>
    intro hne
    exact .step (ih (by intro e; rw [e, hg.bare] at he; cases he)) (un_keep h hg he hne)
theorem un_len (h : SoundP mi mb nx l) (hg : Gone l d n i) : (unL l d n i ev).length ≤ l.length := by
  have hd := (dir_parts (gone_dir h hg)).1
  have hi := gone_has h hg
  have h0 := len_set_has h.rise (lessD (getN l d) n ev) (by rw [less_ino hd]; exact hd)
  have h5 : hasN (setN l (lessD (getN l d) n ev)) i = true := by rw [has_set, hi]; simp
  unfold unL
  split
  · have := len_drop_has (set_rise (lessD (getN l d) n ev) h.rise) i h5; omega
  · rw [len_set_has (set_rise _ h.rise) _ (by rw [link_ino hi]; exact h5), h0]; omega
theorem un_bytes (h : SoundP mi mb nx l) (hg : Gone l d n i) : bytesN (unL l d n i ev) ≤ bytesN l := by
  have hd := (dir_parts (gone_dir h hg)).1
  have hi := gone_has h hg
  have a2 := bytes_set h.rise (lessD (getN l d) n ev)
  rw [less_ino hd] at a2
  have a3 : costN (lessD (getN l d) n ev) = costN (getN l d) := rfl
  have h5 : getN (setN l (lessD (getN l d) n ev)) i = getN l i := by rw [get_set h.rise, less_ino hd, if_neg (gone_ne hg)]
  unfold unL
  split
  · have := bytes_drop (set_rise (lessD (getN l d) n ev) h.rise) i; omega
  · have := bytes_set (set_rise (lessD (getN l d) n ev) h.rise) (linkX (getN l i) ((getN l i).links - 1))
    rw [link_ino hi, h5, show costN (linkX (getN l i) ((getN l i).links - 1)) = costN (getN l i) from rfl] at this
    omega
theorem un_ents (h : SoundP mi mb nx l) (hg : Gone l d n i) : entsN (unL l d n i ev) + 1 = entsN l := by
  have hd := (dir_parts (gone_dir h hg)).1
  have hi := gone_has h hg
  have a2 := ents_set h.rise (lessD (getN l d) n ev)
  rw [less_ino hd] at a2
  have a3 : (lessD (getN l d) n ev).ents.length + 1 = (getN l d).ents.length := by
    have := (without_perm (dir_sort h d) hg.ent).length_eq
    rw [this]; rfl
  have h5 : getN (setN l (lessD (getN l d) n ev)) i = getN l i := by rw [get_set h.rise, less_ino hd, if_neg (gone_ne hg)]
  have a4 : (getN l i).ents.length = 0 := by rw [hg.bare]; rfl
  unfold unL
  split
  · have := ents_drop (set_rise (lessD (getN l d) n ev) h.rise) i
    rw [h5] at this
    omega
  · have := ents_set (set_rise (lessD (getN l d) n ev) h.rise) (linkX (getN l i) ((getN l i).links - 1))
    rw [link_ino hi, h5, show (linkX (getN l i) ((getN l i).links - 1)).ents.length = (getN l i).ents.length from rfl] at this
    omega
theorem un_sound (h : SoundP mi mb nx l) (hg : Gone l d n i) : SoundP mi mb nx (unL l d n i ev) := by
  have hdd := gone_dir h hg
  obtain ⟨hd, hk⟩ := dir_parts hdd
  have hi := gone_has h hg
  have hne := gone_ne hg
  have hi1 := gone_one h hg
  have hdm := get_mem hd
  have him := get_mem hi
  have hnm := fun j => un_names (ev := ev) h hg j
  have hget := fun k => un_get (ev := ev) h hg k
  have hhas := fun k => un_has (ev := ev) h hg k
  have hnmo : ∀ j, j ≠ i → namesN (unL l d n i ev) j = namesN l j := fun j hj => by
    have := hnm j
    rw [if_neg (fun e => hj e.symm)] at this; omega
  have hli := h.links _ him.1
  rw [him.2] at hli
  have hlast : (getN l i).links - 1 = 0 → namesN (unL l d n i ev) i = 0 := fun h0 => by
    have := hnm i
    rw [if_pos rfl] at this; omega
  have hthere : ∀ y ∈ unL l d n i ev, ∀ e ∈ y.ents, e ∈ (getN (unL l d n i ev) y.ino).ents ∧ hasN l e.2 = true := by
    intro y hy e he
    refine ⟨by rw [(getN_of (un_rise h) hy).1]; exact he, ?_⟩
    rcases un_mem h hg hy with ⟨rfl, _⟩ | rfl | hy
    · have : e ∈ (getN l i).ents := he
      rw [hg.bare] at this; cases this
    · exact h.there _ hdm.1 e (mem_without.1 he).1
    · exact h.there _ hy.1 e he
  have hdi : ¬ (getN l d).ino = i := by rw [hdm.2]; exact fun e => hne e.symm
  refine ⟨h.lim, ?_, un_rise h, by rw [hhas, if_neg (fun e => hi1 e.symm)]; exact h.root, ?_, ?_, ?_, ?_, by rw [hnmo 1 (fun e => hi1 e.symm)]; exact h.noRoot, ?_, ?_, ?_, ?_, ?_⟩
  · intro y hy
    rcases un_mem h hg hy with ⟨rfl, _⟩ | rfl | hy
    · exact h.ino (getN l i) him.1
    · exact h.ino (getN l d) hdm.1
    · exact h.ino _ hy.1
  · rw [hget, if_neg (fun e => hi1 e.symm)]
    split
    · exact hk
    · exact h.rootDir
  · intro y hy
    rcases un_mem h hg hy with ⟨rfl, _⟩ | rfl | hy
    · exact h.kind (getN l i) him.1
    · have := h.kind _ hdm.1
      unfold secondX at this ⊢
      rw [if_pos hk, Bool.and_eq_true] at this
      rw [if_pos (show (lessD (getN l d) n ev).kind = 2 from hk), Bool.and_eq_true]
      exact ⟨this.1, (rightB_iff _).2 (without_right n ((rightB_iff _).1 this.2))⟩
    · exact h.kind y hy.1
  · intro y hy e he
    obtain ⟨h1, h2⟩ := hthere y hy e he
    rw [hhas]
    split
    · rename_i e2
      rw [decide_eq_true_eq]
      intro h0
      have := names_pos h1
      rw [e2, hlast h0] at this; omega
    · exact h2
  · intro y hy
    rcases un_mem h hg hy with ⟨rfl, _⟩ | rfl | hy
    · have := hnm i
      rw [if_pos rfl] at this
      show (getN l i).links - 1 = (namesN _ (getN l i).ino : Int)
      rw [him.2, hli]; omega
    · show (getN l d).links = (namesN _ (getN l d).ino : Int)
      rw [hnmo _ hdi]; exact h.links _ hdm.1
    · rw [hnmo _ hy.2.2]; exact h.links _ hy.1
  · rw [hget, if_neg (fun e => hi1 e.symm)]
    split
    · rename_i e
      show (getN l d).parent = 1
      rw [← e]; exact h.rootPar
    · exact h.rootPar
  · intro y hy hy1
    rcases un_mem h hg hy with ⟨rfl, h0⟩ | rfl | hy
    · have := hnm i
      rw [if_pos rfl] at this
      show 1 ≤ namesN _ (getN l i).ino
      rw [him.2]; omega
    · show 1 ≤ namesN _ (getN l d).ino
      rw [hnmo _ hdi]; exact h.named _ hdm.1 hy1
    · rw [hnmo _ hy.2.2]; exact h.named _ hy.1 hy1
  · intro y hy hky hy1
    rcases un_mem h hg hy with ⟨rfl, h0⟩ | rfl | hy
    · exfalso
      have := (h.once _ him.1 hky hy1).1
      rw [him.2] at this
      omega
    · obtain ⟨h7, m, hm⟩ := h.once _ hdm.1 hk hy1
      show namesN _ (getN l d).ino = 1 ∧ ∃ m, (m, (getN l d).ino) ∈ (getN _ (getN l d).parent).ents
      rw [hnmo _ hdi]
      exact ⟨h7, m, un_keep h hg hm hdi⟩
    · obtain ⟨h7, m, hm⟩ := h.once _ hy.1 hky hy1
      rw [hnmo _ hy.2.2]
      exact ⟨h7, m, un_keep h hg hm hy.2.2⟩
  · intro y hy
    rcases un_mem h hg hy with ⟨rfl, h0⟩ | rfl | hy
    · show Reach _ (getN l i).ino
      rw [him.2]
      have := hnm i
      rw [if_pos rfl] at this
      obtain ⟨k, m, hkm⟩ := named_by (un_rise h) (show 0 < namesN (unL l d n i ev) i by omega)
      have hki : k ≠ i := by
        intro e
        rw [hget, if_pos e, if_neg h0] at hkm
        have : ((m, i) : Ent) ∈ (getN l i).ents := hkm
        rw [hg.bare] at this; cases this
      have hkh := ents_has hkm
      rw [hhas, if_neg hki] at hkh
      have hr := h.reach _ (get_mem hkh).1
      rw [(get_mem hkh).2] at hr
      exact .step (un_reach h hg hr hki) hkm
    · exact un_reach h hg (h.reach (getN l d) hdm.1) hdi
    · exact un_reach h hg (h.reach _ hy.1) hy.2.2
  · have a1 := un_len (ev := ev) h hg
    have a2 := un_bytes (ev := ev) h hg
    have := h.fits
    unfold fitsB at this ⊢
    simp only [Bool.and_eq_true, decide_eq_true_eq] at this ⊢
    omega
end
end Go.Proofs.YtkdmfeikikmiiaaGreat
namespace Go.Proofs.YtkdmfeikikmiiaaGreat
def naL (l : List Nd) (d : Int) (n : List UInt8) (i : Int) (ev : Go.Value) : List Nd := setN (setN l (moreD (getN l d) n i ev)) (linkX (getN l i) ((getN l i).links + 1))
structure Given (l : List Nd) (d : Int) (n : List UInt8) (i : Int) : Prop where
  dir : isDir l d = true
  gone : hasB (getN l d).ents n = false
  may : mayB n = true
  has : hasN l i = true
  leaf : (getN l i).kind ≠ 2
section
variable {mi mb nx : Int} {l : List Nd} {d : Int} {n : List UInt8} {i : Int} {ev : Go.Value}
theorem leaf_bare (h : SoundP mi mb nx l) {i : Int} (hi : hasN l i = true) (hk : (getN l i).kind ≠ 2) : (getN l i).ents = [] := h.tree.files _ (get_mem hi).1 hk
theorem given_ne (hg : Given l d n i) : i ≠ d := by
  intro e
  have := hg.leaf
  rw [e] at this
  exact this (dir_parts hg.dir).2
theorem na_rise (h : SoundP mi mb nx l) : riseP (naL l d n i ev) := set_rise _ (set_rise _ h.rise)
theorem na_get (h : SoundP mi mb nx l) (hg : Given l d n i) (k : Int) : getN (naL l d n i ev) k = if k = i then linkX (getN l i) ((getN l i).links + 1) else if k = d then moreD (getN l d) n i ev else getN l k := by
  have hd := (dir_parts hg.dir).1
  unfold naL
  rw [get_set (set_rise _ h.rise), get_set h.rise, more_ino l hd, link_ino hg.has]
theorem na_has (h : SoundP mi mb nx l) (hg : Given l d n i) (k : Int) : hasN (naL l d n i ev) k = hasN l k := by
  have hd := (dir_parts hg.dir).1
  unfold naL
  rw [has_set, has_set, more_ino l hd, link_ino hg.has]
  by_cases hk : k = i
  · rw [hk, hg.has]; simp
  · rw [decide_eq_false hk, Bool.false_or]
    by_cases hkd : k = d
    · rw [hkd, hd]; simp
    · rw [decide_eq_false hkd, Bool.false_or]
theorem na_names (h : SoundP mi mb nx l) (hg : Given l d n i) (j : Int) : namesN (naL l d n i ev) j = namesN l j + if i = j then 1 else 0 := by
  have hd := (dir_parts hg.dir).1
  have h2 := names_set h.rise (moreD (getN l d) n i ev) j
  rw [more_ino l hd, more_cnt (dir_sort h d) hg.gone] at h2
  have h5 : getN (setN l (moreD (getN l d) n i ev)) i = getN l i := by rw [get_set h.rise, more_ino l hd, if_neg (given_ne hg)]
  have h1 := names_set (set_rise (moreD (getN l d) n i ev) h.rise) (linkX (getN l i) ((getN l i).links + 1)) j
  rw [link_ino hg.has, h5, show cntE j (linkX (getN l i) ((getN l i).links + 1)) = cntE j (getN l i) from rfl] at h1
  unfold naL
  omega
theorem na_mem (h : SoundP mi mb nx l) (hg : Given l d n i) {y : Nd} (hy : y ∈ naL l d n i ev) : y = linkX (getN l i) ((getN l i).links + 1) ∨ y = moreD (getN l d) n i ev ∨ (y ∈ l ∧ y.ino ≠ d ∧ y.ino ≠ i) := by
  have hd := (dir_parts hg.dir).1
  unfold naL at hy
  rcases mem_set.1 hy with e | ⟨hy, h1⟩
  · exact .inl e
  · rw [link_ino hg.has] at h1
    rcases mem_set.1 hy with e | ⟨hy, h2⟩
    · exact .inr (.inl e)
    · rw [more_ino l hd] at h2; exact .inr (.inr ⟨hy, h2, h1⟩)
theorem na_keep (h : SoundP mi mb nx l) (hg : Given l d n i) {k : Int} {e : Ent} (he : e ∈ (getN l k).ents) : e ∈ (getN (naL l d n i ev) k).ents := by
  rw [na_get h hg]
  split
  · rename_i e2
    rw [e2] at he
    exact he
  split
  · rename_i e2
    rw [e2] at he
    refine mem_with.2 (.inr ⟨he, fun e3 => ?_⟩)
    have := hg.gone
    unfold hasB at this
    rw [List.any_eq_false] at this
    exact this e he (by simpa using e3)
  · exact he
theorem na_reach (h : SoundP mi mb nx l) (hg : Given l d n i) {k : Int} (hk : Reach l k) : Reach (naL l d n i ev) k := by
  induction hk with
  | root => exact .root
  | step _ he ih => exact .step ih (na_keep h hg he)
theorem na_ents (h : SoundP mi mb nx l) (hg : Given l d n i) : entsN (naL l d n i ev) = entsN l + 1 := by
  have hd := (dir_parts hg.dir).1
  have a2 := ents_set h.rise (moreD (getN l d) n i ev)
  rw [more_ino l hd] at a2
  have a3 : (moreD (getN l d) n i ev).ents.length = (getN l d).ents.length + 1 := by
    have := (with_perm (getN l d).ents n i).length_eq
    rw [without_none (dir_sort h d) hg.gone] at this
    exact this
  have h5 : getN (setN l (moreD (getN l d) n i ev)) i = getN l i := by rw [get_set h.rise, more_ino l hd, if_neg (given_ne hg)]
  have a1 := ents_set (set_rise (moreD (getN l d) n i ev) h.rise) (linkX (getN l i) ((getN l i).links + 1))
  rw [link_ino hg.has, h5, show (linkX (getN l i) ((getN l i).links + 1)).ents.length = (getN l i).ents.length from rfl] at a1
  unfold naL
  omega
theorem na_one (h : SoundP mi mb nx l) (hg : Given l d n i) : i ≠ 1 := by
  intro e
  have := hg.leaf
  rw [e] at this
  exact this h.rootDir
theorem na_sound (h : SoundP mi mb nx l) (hg : Given l d n i) : SoundP mi mb nx (naL l d n i ev) := by
  obtain ⟨hd, hk⟩ := dir_parts hg.dir
  have hi := hg.has
  have hne := given_ne hg
  have hi1 := na_one h hg
  have hdm := get_mem hd
  have him := get_mem hi
  have hnm := fun j => na_names (ev := ev) h hg j
  have hget := fun k => na_get (ev := ev) h hg k
  have hhas := fun k => na_has (ev := ev) h hg k
  have hnmo : ∀ j, j ≠ i → namesN (naL l d n i ev) j = namesN l j := fun j hj => by rw [hnm, if_neg (fun e => hj e.symm)]; omega
  have hdi : ¬ (getN l d).ino = i := by rw [hdm.2]; exact fun e => hne e.symm
  have hposi : 0 < i := by have := (h.ino _ him.1).1; rw [him.2] at this; omega
  refine ⟨h.lim, ?_, na_rise h, by rw [hhas]; exact h.root, ?_, ?_, ?_, ?_, by rw [hnmo 1 (fun e => hi1 e.symm)]; exact h.noRoot, ?_, ?_, ?_, ?_, ?_⟩
  · intro y hy
    rcases na_mem h hg hy with rfl | rfl | hy
    · exact h.ino (getN l i) him.1
    · exact h.ino (getN l d) hdm.1
    · exact h.ino _ hy.1
  · rw [hget, if_neg (fun e => hi1 e.symm)]
    split
    · exact hk
    · exact h.rootDir
  · intro y hy
    rcases na_mem h hg hy with rfl | rfl | hy
    · exact h.kind (getN l i) him.1
    · have := h.kind _ hdm.1
      unfold secondX at this ⊢
      rw [if_pos hk, Bool.and_eq_true] at this
      rw [if_pos (show (moreD (getN l d) n i ev).kind = 2 from hk), Bool.and_eq_true]
      exact ⟨this.1, (rightB_iff _).2 (with_right ((rightB_iff _).1 this.2) (by unfold goodE; rw [hg.may, decide_eq_true hposi]; rfl))⟩
    · exact h.kind y hy.1
  · intro y hy e he
    rw [hhas]
    rcases na_mem h hg hy with rfl | rfl | hy
    · exact h.there _ him.1 e he
    · rcases mem_with.1 he with rfl | he
      · exact hi
      · exact h.there _ hdm.1 e he.1
    · exact h.there _ hy.1 e he
  · intro y hy
    rcases na_mem h hg hy with rfl | rfl | hy
    · have := h.links _ him.1
      show (getN l i).links + 1 = (namesN _ (getN l i).ino : Int)
      rw [him.2] at this ⊢
      rw [hnm, if_pos rfl, this]; omega
    · show (getN l d).links = (namesN _ (getN l d).ino : Int)
      rw [hnmo _ hdi]; exact h.links _ hdm.1
    · rw [hnmo _ hy.2.2]; exact h.links _ hy.1
  · rw [hget, if_neg (fun e => hi1 e.symm)]
    split
    · rename_i e
      show (getN l d).parent = 1
      rw [← e]; exact h.rootPar
    · exact h.rootPar
  · intro y hy hy1
    rcases na_mem h hg hy with rfl | rfl | hy
    · show 1 ≤ namesN _ (getN l i).ino
      rw [him.2, hnm, if_pos rfl]; omega
    · show 1 ≤ namesN _ (getN l d).ino
      rw [hnmo _ hdi]; exact h.named _ hdm.1 hy1
    · rw [hnmo _ hy.2.2]; exact h.named _ hy.1 hy1
  · intro y hy hky hy1
    rcases na_mem h hg hy with rfl | rfl | hy
    · exact absurd hky hg.leaf
    · obtain ⟨h7, m, hm⟩ := h.once _ hdm.1 hk hy1
      show namesN _ (getN l d).ino = 1 ∧ ∃ m, (m, (getN l d).ino) ∈ (getN _ (getN l d).parent).ents
      rw [hnmo _ hdi]
      exact ⟨h7, m, na_keep h hg hm⟩
    · obtain ⟨h7, m, hm⟩ := h.once _ hy.1 hky hy1
      rw [hnmo _ hy.2.2]
      exact ⟨h7, m, na_keep h hg hm⟩
  · intro y hy
    rcases na_mem h hg hy with rfl | rfl | hy
    · exact na_reach h hg (h.reach (getN l i) him.1)
    · exact na_reach h hg (h.reach (getN l d) hdm.1)
    · exact na_reach h hg (h.reach _ hy.1)
  · have a1 : (naL l d n i ev).length = l.length := by
      unfold naL
      rw [len_set_has (set_rise _ h.rise), len_set_has h.rise]
      · rw [more_ino l hd]; exact hd
      · rw [has_set, link_ino hi, hi]; simp
    have a2 : bytesN (naL l d n i ev) = bytesN l := by
      have b2 := bytes_set h.rise (moreD (getN l d) n i ev)
      rw [more_ino l hd] at b2
      have h5 : getN (setN l (moreD (getN l d) n i ev)) i = getN l i := by rw [get_set h.rise, more_ino l hd, if_neg hne]
      have b1 := bytes_set (set_rise (moreD (getN l d) n i ev) h.rise) (linkX (getN l i) ((getN l i).links + 1))
      rw [link_ino hi, h5, show costN (linkX (getN l i) ((getN l i).links + 1)) = costN (getN l i) from rfl] at b1
      have b3 : costN (moreD (getN l d) n i ev) = costN (getN l d) := rfl
      unfold naL
      omega
    have := h.fits
    unfold fitsB at this ⊢
    rw [a1, a2]; exact this
end
end Go.Proofs.YtkdmfeikikmiiaaGreat
namespace Go.Proofs.YtkdmfeikikmiiaaGreat
/-- Alike but for what files hold. -/
structure Alike (l l' : List Nd) : Prop where
  has : ∀ k, hasN l' k = hasN l k
  same : ∀ k, (getN l' k).ino = (getN l k).ino ∧ (getN l' k).kind = (getN l k).kind ∧ (getN l' k).parent = (getN l k).parent ∧ (getN l' k).ents = (getN l k).ents
  data : ∀ k, (getN l k).kind = 3 → (getN l' k).data = (getN l k).data
section
variable {l l' : List Nd}
theorem on_alike (A : Alike l l') (fo : Bool) (g : Nat) (s : Sp) (todo : List (List UInt8)) (dir : Bool) : onN l' fo g s todo dir = onN l fo g s todo dir := by
  match todo with
  | [] => rw [on_nil, on_nil, A.has, (A.same s.ino).2.1]
  | m :: r =>
    obtain ⟨o1, o2, o3, o4⟩ := A.same s.ino
    by_cases hs : s.ino = 0
    · rw [on_gone hs, on_gone hs]
    by_cases hk : (getN l s.ino).kind = 2
    · have hk' := o2.trans hk
      by_cases d1 : m = [46]
      · rw [on_dot hs hk d1, on_dot hs hk' d1, o1]; exact on_alike A fo g _ r dir
      by_cases d2 : m = [46, 46]
      · rw [on_dots hs hk d2, on_dots hs hk' d2, o3]; exact on_alike A fo g _ r dir
      have hst : stopB l' fo dir s.ino m r = stopB l fo dir s.ino m r := by
        unfold stopB
        rw [o4, (A.same _).2.1]
      have hstep : stepS l' s.ino m = stepS l s.ino m := by unfold stepS; rw [o1, o4]
      cases hst1 : stopB l fo dir s.ino m r
      · match g with
        | 0 => rw [on_loop hs hk d1 d2 hst1, on_loop hs hk' d1 d2 (hst.trans hst1)]
        | g + 1 =>
          have hk3 : (getN l (numB (getN l s.ino).ents m)).kind = 3 := by
            unfold stopB at hst1
            simp only [Bool.or_eq_false_iff] at hst1
            simpa using hst1.1.2
          have hln : lnkD l' s.ino m = lnkD l s.ino m := by unfold lnkD; rw [o4]; exact A.data _ hk3
          cases hlo : longB (lnkD l s.ino m)
          · rw [on_link hs hk d1 d2 hst1 hlo, on_link hs hk' d1 d2 (hst.trans hst1) (by rw [hln]; exact hlo), hln, o1]
            exact on_alike A fo g _ _ _
          · rw [on_long hs hk d1 d2 hst1 hlo, on_long hs hk' d1 d2 (hst.trans hst1) (by rw [hln]; exact hlo)]
      · rw [on_stop hs hk d1 d2 hst1, on_stop hs hk' d1 d2 (hst.trans hst1), hstep]
        exact on_alike A fo g _ r dir
    · rw [on_file hs hk, on_file hs (by rw [o2]; exact hk)]
termination_by (g, todo.length)
end
def dataL (l : List Nd) (i : Int) (data : List UInt8) : List Nd := setN l { getN l i with data := data }
section
variable {mi mb nx : Int} {l : List Nd} {i : Int} {data : List UInt8}
theorem data_ino (hi : hasN l i = true) : ({ getN l i with data := data } : Nd).ino = i := (get_mem hi).2
theorem data_get (h : SoundP mi mb nx l) (hi : hasN l i = true) (k : Int) : getN (dataL l i data) k = if k = i then { getN l i with data := data } else getN l k := by
  unfold dataL
  rw [get_set h.rise, data_ino hi]
theorem data_alike (h : SoundP mi mb nx l) (hi : hasN l i = true) (hk : (getN l i).kind = 1) : Alike l (dataL l i data) := by
  refine ⟨fun k => ?_, fun k => ?_, fun k hk3 => ?_⟩
  · unfold dataL
    rw [has_set, data_ino hi]
    by_cases e : k = i
    · rw [e, hi]; simp
    · rw [decide_eq_false e, Bool.false_or]
  · rw [data_get h hi]
    split
    · rename_i e; subst e; exact ⟨rfl, rfl, rfl, rfl⟩
    · exact ⟨rfl, rfl, rfl, rfl⟩
  · rw [data_get h hi]
    split
    · rename_i e; rw [e, hk] at hk3; cases hk3
    · rfl
theorem data_len (h : SoundP mi mb nx l) (hi : hasN l i = true) : (dataL l i data).length = l.length := len_set_has h.rise _ (by rw [data_ino hi]; exact hi)
theorem data_reach (h : SoundP mi mb nx l) (hi : hasN l i = true) (hk : (getN l i).kind = 1) {k : Int} (hr : Reach l k) : Reach (dataL l i data) k := by
  induction hr with
  | root => exact .root
  | step _ he ih => exact .step ih (by rw [((data_alike (data := data) h hi hk).same _).2.2.2]; exact he)
theorem data_names (h : SoundP mi mb nx l) (hi : hasN l i = true) (j : Int) : namesN (dataL l i data) j = namesN l j := by
  have := names_set h.rise ({ getN l i with data := data }) j
  rw [data_ino hi, show cntE j ({ getN l i with data := data } : Nd) = cntE j (getN l i) from rfl] at this
  unfold dataL
  omega
theorem data_sound (h : SoundP mi mb nx l) (hi : hasN l i = true) (hk : (getN l i).kind = 1) (hf : fitsB mi mb l 0 ((data.length : Int) - ((getN l i).data.length : Int)) = true) : SoundP mi mb nx (dataL l i data) := by
  have A := data_alike (data := data) h hi hk
  have him := get_mem hi
  have hmem : ∀ y ∈ dataL l i data, y = { getN l i with data := data } ∨ (y ∈ l ∧ y.ino ≠ i) := fun y hy => by
    unfold dataL at hy
    rcases mem_set.1 hy with e | ⟨h1, h2⟩
    · exact .inl e
    · rw [data_ino hi] at h2; exact .inr ⟨h1, h2⟩
  have hnm := fun j => data_names (data := data) h hi j
  have hdir : ∀ d m (j : Int), (m, j) ∈ (getN l d).ents → (m, j) ∈ (getN (dataL l i data) d).ents := fun d m j hm => by rw [(A.same d).2.2.2]; exact hm
  refine ⟨h.lim, ?_, set_rise _ h.rise, by rw [A.has]; exact h.root, by rw [(A.same 1).2.1]; exact h.rootDir, ?_, ?_, ?_, by rw [hnm]; exact h.noRoot, by rw [(A.same 1).2.2.1]; exact h.rootPar, ?_, ?_, ?_, ?_⟩
  · intro y hy
    rcases hmem y hy with rfl | hy
    · exact h.ino (getN l i) him.1
    · exact h.ino _ hy.1
  · intro y hy
    rcases hmem y hy with rfl | hy
    · have := h.kind _ him.1
      unfold secondX at this ⊢
      rw [if_neg (by omega), if_pos hk] at this
      rw [if_neg (show ¬ (getN l i).kind = 2 by omega), if_pos (show (getN l i).kind = 1 from hk)]
      exact this
    · exact h.kind _ hy.1
  · intro y hy e he
    rw [A.has]
    rcases hmem y hy with rfl | hy
    · exact h.there _ him.1 e he
    · exact h.there _ hy.1 e he
  · intro y hy
    rw [hnm]
    rcases hmem y hy with rfl | hy
    · exact h.links (getN l i) him.1
    · exact h.links _ hy.1
  · intro y hy hy1
    rw [hnm]
    rcases hmem y hy with rfl | hy
    · exact h.named (getN l i) him.1 hy1
    · exact h.named _ hy.1 hy1
  · intro y hy hky hy1
    rw [hnm]
    rcases hmem y hy with rfl | hy
    · exact absurd (show (getN l i).kind = 2 from hky) (by omega)
    · obtain ⟨h7, m, hm⟩ := h.once _ hy.1 hky hy1
      exact ⟨h7, m, hdir _ _ _ hm⟩
  · intro y hy
    rcases hmem y hy with rfl | hy
    · exact data_reach h hi hk (h.reach (getN l i) him.1)
    · exact data_reach h hi hk (h.reach _ hy.1)
  · have b := bytes_set h.rise ({ getN l i with data := data })
    rw [data_ino hi] at b
    have c1 : costN (getN l i) = (getN l i).data.length := costN_yes hk
    have c2 : costN ({ getN l i with data := data } : Nd) = data.length := costN_yes hk
    have hl := data_len (data := data) h hi
    unfold fitsB at hf ⊢
    simp only [Bool.and_eq_true, decide_eq_true_eq] at hf ⊢
    rw [hl, show bytesN (dataL l i data) = bytesN (setN l { getN l i with data := data }) from rfl]
    omega
end
end Go.Proofs.YtkdmfeikikmiiaaGreat
namespace Go.Proofs.YtkdmfeikikmiiaaGreat
def parN (l : List Nd) : Nat → Int → Int
  | 0, d => d
  | k + 1, d => parN l k (getN l d).parent
def insideN (l : List Nd) (d o : Int) : Bool := (List.range (l.length + 1)).any (fun k => parN l k d == o)
theorem par_add (l : List Nd) (a : Nat) : ∀ (b : Nat) (d : Int), parN l (a + b) d = parN l b (parN l a d) := by
  induction a with
  | zero => intro b d; rw [Nat.zero_add]; rfl
  | succ a ih => intro b d; rw [Nat.succ_add]; exact ih b _
section
variable {mi mb nx : Int} {l : List Nd}
theorem par_one (h : SoundP mi mb nx l) (k : Nat) : parN l k 1 = 1 := by
  induction k with
  | zero => rfl
  | succ k ih => show parN l k (getN l 1).parent = 1; rw [h.rootPar]; exact ih
theorem only_parent (h : SoundP mi mb nx l) {i k : Int} {n : List UInt8} (hd : isDir l k = true) (he : (n, k) ∈ (getN l i).ents) : (getN l k).parent = i := by
  obtain ⟨hh, hk⟩ := dir_parts hd
  have hm := get_mem hh
  have h1 : k ≠ 1 := by
    intro e
    have := names_pos he
    rw [e, h.noRoot] at this; omega
  obtain ⟨h7, m, hn⟩ := h.once _ hm.1 hk (by rw [hm.2]; exact h1)
  rw [hm.2] at h7 hn
  rw [← in_of h7 hn, in_of h7 he]
theorem lv_par (h : SoundP mi mb nx l) {m : Nat} {k : Int} (hd : isDir l k = true) (hm : k ∈ lvN l (m + 1) [1]) : (getN l k).parent ∈ lvN l m [1] := by
  obtain ⟨i, hi, hk⟩ := List.mem_flatMap.1 hm
  obtain ⟨e, he, rfl⟩ := List.mem_map.1 hk
  rw [only_parent h hd (show (e.1, e.2) ∈ _ from he)]
  exact hi
theorem par_level (h : SoundP mi mb nx l) (m : Nat) : ∀ {k : Int}, isDir l k = true → k ∈ lvN l m [1] → parN l m k = 1 := by
  induction m with
  | zero => intro k _ hk; exact List.mem_singleton.1 hk
  | succ m ih => intro k hd hk; exact ih (par_dir h hd) (lv_par h hd hk)
theorem inside_iff (h : SoundP mi mb nx l) {d o : Int} (hd : isDir l d = true) : insideN l d o = true ↔ ∃ k, parN l k d = o := by
  unfold insideN
  rw [List.any_eq_true]
  constructor
  · rintro ⟨k, _, hk⟩
    exact ⟨k, by simpa using hk⟩
  · rintro ⟨k, hk⟩
    obtain ⟨m, hm, hlv⟩ := on_level h.tree (dir_parts hd).1
    have h1 := par_level h m hd hlv
    rcases Nat.lt_or_ge m k with hlt | hge
    · refine ⟨m, List.mem_range.2 (by omega), ?_⟩
      have := par_add l m (k - m) d
      rw [show m + (k - m) = k from by omega, h1, par_one h, hk] at this
      rw [h1, this]; simp
    · exact ⟨k, List.mem_range.2 (by omega), by simpa using hk⟩
theorem par_dirs (h : SoundP mi mb nx l) {d : Int} (hd : isDir l d = true) (k : Nat) : isDir l (parN l k d) = true := by
  induction k generalizing d with
  | zero => exact hd
  | succ k ih => exact ih (par_dir h hd)
end
def mvL (l : List Nd) (ad : Int) (an : List UInt8) (ai bd : Int) (bn : List UInt8) (e1 e2 : Go.Value) : List Nd :=
  let l2 := setN l (lessD (getN l ad) an e1)
  let l3 := setN l2 (moreD (getN l2 bd) bn ai e2)
  if (getN l3 ai).kind = 2 then setN l3 { getN l3 ai with parent := bd } else l3
structure Mv (l : List Nd) (ad : Int) (an : List UInt8) (ai bd : Int) (bn : List UInt8) : Prop where
  ent : (an, ai) ∈ (getN l ad).ents
  dir : isDir l bd = true
  gone : hasB (getN l bd).ents bn = false
  may : mayB bn = true
  out : isDir l ai = true → ∀ k, parN l k bd ≠ ai
/-- What a move makes. -/
structure Moved (l l' : List Nd) (ad : Int) (an : List UInt8) (ai bd : Int) (bn : List UInt8) : Prop where
  rise : riseP l'
  has : ∀ k, hasN l' k = hasN l k
  same : ∀ k, (getN l' k).ino = (getN l k).ino ∧ (getN l' k).kind = (getN l k).kind ∧ (getN l' k).links = (getN l k).links ∧ (getN l' k).data = (getN l k).data
  par : ∀ k, (getN l' k).parent = if k = ai ∧ (getN l ai).kind = 2 then bd else (getN l k).parent
  ents : ∀ k e, e ∈ (getN l' k).ents ↔ (k = bd ∧ e = (bn, ai)) ∨ (e ∈ (getN l k).ents ∧ ¬ (k = ad ∧ e.1 = an))
  right : ∀ k, rightB (getN l k).ents = true → rightB (getN l' k).ents = true
  names : ∀ j, namesN l' j = namesN l j
  len : l'.length = l.length
  bytes : bytesN l' = bytesN l
  bare : ∀ k, k ≠ ad → k ≠ bd → (getN l' k).ents = (getN l k).ents
section
variable {mi mb nx : Int} {l : List Nd} {ad : Int} {an : List UInt8} {ai bd : Int} {bn : List UInt8} {e1 e2 : Go.Value}
theorem mv_moved (h : SoundP mi mb nx l) (hv : Mv l ad an ai bd bn) : Moved l (mvL l ad an ai bd bn e1 e2) ad an ai bd bn := by
  have had : hasN l ad = true := ents_has hv.ent
  have hai : hasN l ai = true := h.there _ (get_mem had).1 _ hv.ent
  obtain ⟨hbd, hbk⟩ := dir_parts hv.dir
  have hposi : 0 < ai := by have := (h.ino _ (get_mem hai).1).1; rw [(get_mem hai).2] at this; omega
  have hs := dir_sort h
  -- one by one
  have i2 : (lessD (getN l ad) an e1).ino = ad := less_ino had
  have r2 : riseP (setN l (lessD (getN l ad) an e1)) := set_rise _ h.rise
  have g2 : ∀ k, getN (setN l (lessD (getN l ad) an e1)) k = if k = ad then lessD (getN l ad) an e1 else getN l k := fun k => by rw [get_set h.rise, i2]
  have a2 : ∀ k, hasN (setN l (lessD (getN l ad) an e1)) k = hasN l k := fun k => by
    rw [has_set, i2]
    by_cases e : k = ad
    · rw [e, had]; simp
    · rw [decide_eq_false e, Bool.false_or]
  have n2 : ∀ j, namesN (setN l (lessD (getN l ad) an e1)) j + (if ai = j then 1 else 0) = namesN l j := fun j => by
    have b1 := names_set h.rise (lessD (getN l ad) an e1) j
    have b2 := less_cnt (ev := e1) (hs ad) hv.ent j
    rw [i2] at b1
    omega
  have s2 : sortP (getN (setN l (lessD (getN l ad) an e1)) bd).ents := by
    rw [g2]; split
    · exact without_sort an (hs ad)
    · exact hs bd
  have o2 : hasB (getN (setN l (lessD (getN l ad) an e1)) bd).ents bn = false := by
    rw [g2]; split
    · rename_i e
      rw [show (lessD (getN l ad) an e1).ents = withoutB (getN l ad).ents an from rfl, (num_without (hs ad) an bn).2, ← e, hv.gone]; simp
    · exact hv.gone
  generalize hl2 : setN l (lessD (getN l ad) an e1) = l2 at *
  have i3 : (moreD (getN l2 bd) bn ai e2).ino = bd := by
    show (getN l2 bd).ino = bd
    exact (get_mem (by rw [a2]; exact hbd)).2
  have r3 : riseP (setN l2 (moreD (getN l2 bd) bn ai e2)) := set_rise _ r2
  have g3 : ∀ k, getN (setN l2 (moreD (getN l2 bd) bn ai e2)) k = if k = bd then moreD (getN l2 bd) bn ai e2 else getN l2 k := fun k => by rw [get_set r2, i3]
  have a3 : ∀ k, hasN (setN l2 (moreD (getN l2 bd) bn ai e2)) k = hasN l k := fun k => by
    rw [has_set, i3, a2]
    by_cases e : k = bd
    · rw [e, hbd]; simp
    · rw [decide_eq_false e, Bool.false_or]
  have n3 : ∀ j, namesN (setN l2 (moreD (getN l2 bd) bn ai e2)) j = namesN l j := fun j => by
    have b1 := names_set r2 (moreD (getN l2 bd) bn ai e2) j
    have b2 := more_cnt (x := getN l2 bd) (ev := e2) (i := ai) s2 o2 j
    rw [i3] at b1
    have := n2 j
    omega
  have f3 : ∀ k, (getN (setN l2 (moreD (getN l2 bd) bn ai e2)) k).ino = (getN l k).ino ∧ (getN (setN l2 (moreD (getN l2 bd) bn ai e2)) k).kind = (getN l k).kind ∧ (getN (setN l2 (moreD (getN l2 bd) bn ai e2)) k).links = (getN l k).links ∧ (getN (setN l2 (moreD (getN l2 bd) bn ai e2)) k).data = (getN l k).data ∧ (getN (setN l2 (moreD (getN l2 bd) bn ai e2)) k).parent = (getN l k).parent := fun k => by
    have q2 : (getN l2 k).ino = (getN l k).ino ∧ (getN l2 k).kind = (getN l k).kind ∧ (getN l2 k).links = (getN l k).links ∧ (getN l2 k).data = (getN l k).data ∧ (getN l2 k).parent = (getN l k).parent := by
      rw [g2]; split
      · rename_i e; subst e; exact ⟨rfl, rfl, rfl, rfl, rfl⟩
      · exact ⟨rfl, rfl, rfl, rfl, rfl⟩
    rw [g3]; split
    · rename_i e; subst e; exact q2
    · exact q2
  have m3 : ∀ k e, e ∈ (getN (setN l2 (moreD (getN l2 bd) bn ai e2)) k).ents ↔ (k = bd ∧ e = (bn, ai)) ∨ (e ∈ (getN l k).ents ∧ ¬ (k = ad ∧ e.1 = an)) := fun k e => by
    have q2 : e ∈ (getN l2 k).ents ↔ (e ∈ (getN l k).ents ∧ ¬ (k = ad ∧ e.1 = an)) := by
      rw [g2]; split
      · rename_i e5
        subst e5
        rw [show (lessD (getN l k) an e1).ents = withoutB (getN l k).ents an from rfl, mem_without]
        simp
      · rename_i e5
        simp [e5]
    rw [g3]
    by_cases hk : k = bd
    · subst hk
      rw [if_pos rfl, show (moreD (getN l2 k) bn ai e2).ents = withB (getN l2 k).ents bn ai from rfl, mem_with, q2]
      constructor
      · rintro (h1 | h1)
        · exact .inl ⟨rfl, h1⟩
        · exact .inr h1.1
      · rintro (h1 | h1)
        · exact .inl h1.2
        · refine .inr ⟨h1, fun e5 => ?_⟩
          have h6 := (List.any_eq_false.1 hv.gone) e h1.1
          exact h6 (by simpa using e5)
    · rw [if_neg hk, q2]
      simp [hk]
  have t3 : ∀ k, rightB (getN l k).ents = true → rightB (getN (setN l2 (moreD (getN l2 bd) bn ai e2)) k).ents = true := fun k hr => by
    have q2 : rightB (getN l2 k).ents = true := by
      rw [g2]; split
      · rename_i e; subst e; exact (rightB_iff _).2 (without_right an ((rightB_iff _).1 hr))
      · exact hr
    rw [g3]; split
    · rename_i e; subst e
      exact (rightB_iff _).2 (with_right ((rightB_iff _).1 q2) (by unfold goodE; rw [hv.may, decide_eq_true hposi]; rfl))
    · exact q2
  have b3 : ∀ k, k ≠ ad → k ≠ bd → (getN (setN l2 (moreD (getN l2 bd) bn ai e2)) k).ents = (getN l k).ents := fun k h1 h2 => by rw [g3, if_neg h2, g2, if_neg h1]
  have ln3 : (setN l2 (moreD (getN l2 bd) bn ai e2)).length = l.length := by
    rw [len_set_has r2 _ (by rw [i3, a2]; exact hbd), ← hl2, len_set_has h.rise _ (by rw [i2]; exact had)]
  have by3 : bytesN (setN l2 (moreD (getN l2 bd) bn ai e2)) = bytesN l := by
    have c1 := bytes_set h.rise (lessD (getN l ad) an e1)
    rw [hl2, i2, show costN (lessD (getN l ad) an e1) = costN (getN l ad) from rfl] at c1
    have c2 := bytes_set r2 (moreD (getN l2 bd) bn ai e2)
    rw [i3, show costN (moreD (getN l2 bd) bn ai e2) = costN (getN l2 bd) from rfl] at c2
    omega
  have hM : mvL l ad an ai bd bn e1 e2 = if (getN (setN l2 (moreD (getN l2 bd) bn ai e2)) ai).kind = 2 then setN (setN l2 (moreD (getN l2 bd) bn ai e2)) { getN (setN l2 (moreD (getN l2 bd) bn ai e2)) ai with parent := bd } else setN l2 (moreD (getN l2 bd) bn ai e2) := by unfold mvL; rw [hl2]
  rw [hM]
  generalize setN l2 (moreD (getN l2 bd) bn ai e2) = l3 at *
  have hk3 := (f3 ai).2.1
  split
  · rename_i hkd
    have i4 : ({ getN l3 ai with parent := bd } : Nd).ino = ai := (get_mem (l := l3) (by rw [a3]; exact hai)).2
    have g4 : ∀ k, getN (setN l3 { getN l3 ai with parent := bd }) k = if k = ai then { getN l3 ai with parent := bd } else getN l3 k := fun k => by rw [get_set r3, i4]
    have z4 : ∀ k, (getN (setN l3 { getN l3 ai with parent := bd }) k).ino = (getN l3 k).ino ∧ (getN (setN l3 { getN l3 ai with parent := bd }) k).kind = (getN l3 k).kind ∧ (getN (setN l3 { getN l3 ai with parent := bd }) k).links = (getN l3 k).links ∧ (getN (setN l3 { getN l3 ai with parent := bd }) k).data = (getN l3 k).data ∧ (getN (setN l3 { getN l3 ai with parent := bd }) k).ents = (getN l3 k).ents := fun k => by
      rw [g4]; split
      · rename_i e; subst e; exact ⟨rfl, rfl, rfl, rfl, rfl⟩
      · exact ⟨rfl, rfl, rfl, rfl, rfl⟩
    refine ⟨set_rise _ r3, fun k => ?_, fun k => ?_, fun k => ?_, fun k e => ?_, fun k hr => ?_, fun j => ?_, ?_, ?_, fun k h1 h2 => ?_⟩
    · rw [has_set, i4, a3]
      by_cases e : k = ai
      · rw [e, hai]; simp
      · rw [decide_eq_false e, Bool.false_or]
    · obtain ⟨y1, y2, y3, y4, _⟩ := z4 k
      obtain ⟨x1, x2, x3, x4, _⟩ := f3 k
      exact ⟨y1.trans x1, y2.trans x2, y3.trans x3, y4.trans x4⟩
    · rw [g4]
      by_cases e : k = ai
      · rw [if_pos e, if_pos ⟨e, by rw [← hk3]; exact hkd⟩]
      · rw [if_neg e, if_neg (fun h => e h.1)]; exact (f3 k).2.2.2.2
    · rw [(z4 k).2.2.2.2]; exact m3 k e
    · rw [(z4 k).2.2.2.2]; exact t3 k hr
    · have := names_set r3 ({ getN l3 ai with parent := bd }) j
      rw [i4, show cntE j ({ getN l3 ai with parent := bd } : Nd) = cntE j (getN l3 ai) from rfl] at this
      have := n3 j
      omega
    · rw [len_set_has r3 _ (by rw [i4, a3]; exact hai)]; exact ln3
    · have := bytes_set r3 ({ getN l3 ai with parent := bd })
      rw [i4, show costN ({ getN l3 ai with parent := bd } : Nd) = costN (getN l3 ai) from rfl] at this
      omega
    · rw [(z4 k).2.2.2.2]; exact b3 k h1 h2
  · rename_i hkd
    refine ⟨r3, a3, fun k => ⟨(f3 k).1, (f3 k).2.1, (f3 k).2.2.1, (f3 k).2.2.2.1⟩, fun k => ?_, m3, t3, n3, ln3, by3, b3⟩
    rw [if_neg (fun h => hkd (by rw [hk3]; exact h.2))]
    exact (f3 k).2.2.2.2
end
end Go.Proofs.YtkdmfeikikmiiaaGreat
namespace Go.Proofs.YtkdmfeikikmiiaaGreat
def leafX (nx k : Int) (data : List UInt8) (d : Int) : Nd := ⟨nx, k, 1, data, if k = 2 then d else 0, .slice none 0 0, []⟩
def sizeK (k : Int) (data : List UInt8) : Int := if k = 1 then (data.length : Int) else 0
def newF (mi mb nx : Int) (l : List Nd) (s : Sp) (k : Int) (data : List UInt8) (ev : Go.Value) : (Int × List Nd) × Int :=
  if mayB s.name = false then ((nx, l), 9) else if fitsB mi mb l 1 (sizeK k data) = false then ((nx, l), 8)
  else ((nx + 1, newL l s.dir s.name ev (leafX nx k data s.dir)), 0)
theorem newF_may {mi mb nx : Int} {l : List Nd} {s : Sp} {k : Int} {data : List UInt8} {ev : Go.Value} (h : mayB s.name = false) : newF mi mb nx l s k data ev = ((nx, l), 9) := by unfold newF; rw [if_pos h]
theorem newF_full {mi mb nx : Int} {l : List Nd} {s : Sp} {k : Int} {data : List UInt8} {ev : Go.Value} (h : mayB s.name = true) (h2 : fitsB mi mb l 1 (sizeK k data) = false) : newF mi mb nx l s k data ev = ((nx, l), 8) := by unfold newF; rw [if_neg (by simp [h]), if_pos h2]
theorem newF_ok {mi mb nx : Int} {l : List Nd} {s : Sp} {k : Int} {data : List UInt8} {ev : Go.Value} (h : mayB s.name = true) (h2 : fitsB mi mb l 1 (sizeK k data) = true) : newF mi mb nx l s k data ev = ((nx + 1, newL l s.dir s.name ev (leafX nx k data s.dir)), 0) := by
  unfold newF; rw [if_neg (by simp [h]), if_neg (by simp [h2])]
def putF (mi mb nx : Int) (l : List Nd) (base p : List UInt8) (k : Int) (data : List UInt8) (refused : Int) (ev : Go.Value) : (Int × List Nd) × Int :=
  if (seekP l base p false).2 ≠ 0 then ((nx, l), (seekP l base p false).2)
  else if (seekP l base p false).1.ino ≠ 0 then ((nx, l), 2)
  else if refused ≠ 0 ∧ slashB p = true then ((nx, l), refused)
  else newF mi mb nx l (seekP l base p false).1 k data ev
def symF (mi mb nx : Int) (l : List Nd) (base target p : List UInt8) (ev : Go.Value) : (Int × List Nd) × Int :=
  if target = [] then ((nx, l), 1) else if 4095 < target.length then ((nx, l), 7)
  else if target.contains 0 = true then ((nx, l), 9) else putF mi mb nx l base p 3 target 1 ev
/-- What is made in a sound file system. -/
theorem put_sound {mi mb nx : Int} {l : List Nd} (h : SoundP mi mb nx l) (hn : nx < 1099511627776) {base p data : List UInt8} {k refused : Int} {ev : Go.Value} (hk : k = 1 ∨ k = 2 ∨ k = 3) (hd : k = 2 → data = []) (hd3 : k = 3 → 1 ≤ data.length ∧ data.length ≤ 4095 ∧ data.all (fun c => c != 0) = true) (hrf : k ≠ 2 → refused ≠ 0)
    (h0 : (putF mi mb nx l base p k data refused ev).2 = 0) (hrn : refused ≠ 0 ∨ k = 2) :
    SoundP mi mb (putF mi mb nx l base p k data refused ev).1.1 (putF mi mb nx l base p k data refused ev).1.2 ∧
      (∃ d n, seekP (putF mi mb nx l base p k data refused ev).1.2 base p false = (⟨d, n, nx⟩, 0)) ∧
      getN (putF mi mb nx l base p k data refused ev).1.2 nx = leafX nx k data (seekP l base p false).1.dir ∧
      hasN (putF mi mb nx l base p k data refused ev).1.2 nx = true ∧
      (putF mi mb nx l base p k data refused ev).1.2.length = l.length + 1 ∧
      (listN l).Sublist (listN (putF mi mb nx l base p k data refused ev).1.2) ∧ (listN (putF mi mb nx l base p k data refused ev).1.2).length = (listN l).length + 1 := by
  have hsp := seek_spot h base p false
  unfold putF at h0 ⊢
  split at h0
  · rename_i h1; exact absurd h0 h1
  rename_i h1
  rw [if_neg h1]
  split at h0
  · cases h0
  rename_i h2
  rw [if_neg h2]
  split at h0
  · rename_i h3
    exact absurd h0 h3.1
  rename_i h3
  rw [if_neg h3]
  have h1' : (seekP l base p false).2 = 0 := by simpa using h1
  have h2' : (seekP l base p false).1.ino = 0 := by simpa using h2
  have hspot := hsp.1 h1'
  generalize hq : seekP l base p false = q at *
  obtain ⟨⟨qd, qn, qi⟩, qe⟩ := q
  dsimp only at h1' h2' hspot h0 ⊢
  subst h1' h2'
  unfold newF at h0 ⊢
  split at h0
  · cases h0
  rename_i h4
  rw [if_neg h4]
  split at h0
  · cases h0
  rename_i h5
  rw [if_neg h5]
  have h4' : mayB qn = true := by simpa using h4
  have h5' : fitsB mi mb l 1 (sizeK k data) = true := by simpa using h5
  have hqn : qn ≠ [] := (mayB_good h4').2
  obtain ⟨g1, g2, g3⟩ := hspot.entry hqn
  dsimp only at g1 g2 g3
  have hgone : hasB (getN l qd).ents qn = false := by rw [g3]; simp
  have hleaf : Leaf l nx qd qn (leafX nx k data qd) := by
    refine ⟨g1, hgone, h4', rfl, rfl, rfl, ?_, fun hk2 => ?_⟩
    · unfold secondX leafX
      rcases hk with rfl | rfl | rfl
      · rfl
      · rw [hd rfl]; rfl
      · obtain ⟨a1, a2, a3⟩ := hd3 rfl
        simp [a1, a2]
        simpa using a3
    · show (if k = 2 then qd else 0) = qd
      rw [if_pos (show k = 2 from hk2)]
  have hcost : (costN (leafX nx k data qd) : Int) = sizeK k data := by
    unfold sizeK
    by_cases h1 : k = 1
    · rw [if_pos h1]; rw [costN_yes (show (leafX nx k data qd).kind = 1 from h1)]; rfl
    · rw [if_neg h1]; rw [costN_no (show ¬ (leafX nx k data qd).kind = 1 from h1)]; rfl
  rw [← hcost] at h5'
  have hso := new_sound (ev := ev) h hleaf hn h5'
  have hG := grown_new (ev := ev) h hleaf
  have hgx : getN (newL l qd qn ev (leafX nx k data qd)) nx = leafX nx k data qd := by rw [new_get h hleaf, if_pos rfl]
  refine ⟨hso, ⟨qd, qn, seek_grown h hG ?_ hq⟩, hgx, by rw [new_has h hleaf]; simp, new_len h hleaf, list_new h hleaf hn h5'⟩
  rw [hgx]
  by_cases hk2 : k = 2
  · exact .inl hk2
  · right
    have hr := hrf hk2
    cases hsl : slashB p
    · rfl
    · exact absurd ⟨hr, hsl⟩ h3
def unlinkF (l : List Nd) (base p : List UInt8) (ev : Go.Value) : List Nd × Int :=
  if (seekP l base p false).2 ≠ 0 then (l, (seekP l base p false).2)
  else if (seekP l base p false).1.ino = 0 then (l, 1)
  else if (getN l (seekP l base p false).1.ino).kind = 2 then (l, 4)
  else (unL l (seekP l base p false).1.dir (seekP l base p false).1.name (seekP l base p false).1.ino ev, 0)
def rmdirF (l : List Nd) (base p : List UInt8) (ev : Go.Value) : List Nd × Int :=
  if (seekP l base p false).2 ≠ 0 then (l, (seekP l base p false).2)
  else if (seekP l base p false).1.ino = 0 then (l, 1)
  else if (getN l (seekP l base p false).1.ino).kind ≠ 2 then (l, 3)
  else if (getN l (seekP l base p false).1.ino).ino = 1 then (l, 10)
  else if (seekP l base p false).1.name = [] then (l, 9)
  else if (getN l (seekP l base p false).1.ino).ents.length > 0 then (l, 5)
  else (unL l (seekP l base p false).1.dir (seekP l base p false).1.name (seekP l base p false).1.ino ev, 0)
def linkF (l : List Nd) (base src dst : List UInt8) (ev : Go.Value) : List Nd × Int :=
  if (seekP l base src false).2 ≠ 0 then (l, (seekP l base src false).2)
  else if (seekP l base src false).1.ino = 0 then (l, 1)
  else if (getN l (seekP l base src false).1.ino).kind = 2 then (l, 11)
  else if (seekP l base dst false).2 ≠ 0 then (l, (seekP l base dst false).2)
  else if (seekP l base dst false).1.ino ≠ 0 then (l, 2)
  else if slashB dst = true then (l, 1)
  else if mayB (seekP l base dst false).1.name = false then (l, 9)
  else (naL l (seekP l base dst false).1.dir (seekP l base dst false).1.name (getN l (seekP l base src false).1.ino).ino ev, 0)
theorem sumN_le {f g : Nd → Nat} (h : ∀ x, f x ≤ g x) : ∀ l : List Nd, sumN f l ≤ sumN g l
  | [] => Nat.le_refl _
  | x :: l => by
    have := sumN_le h l
    have := h x
    unfold sumN at *
    simp only [List.map_cons, List.sum_cons]
    omega
theorem names_ents (l : List Nd) (j : Int) : namesN l j ≤ entsN l := by
  rw [names_cnt]
  exact sumN_le (fun x => by unfold cntE; exact Nat.le_trans List.count_le_length (by rw [List.length_map]; exact Nat.le_refl _)) l
theorem long_no {p : List UInt8} (h : longB p = false) : p.length ≤ 4095 ∧ ∀ n ∈ namesB p, n.length ≤ 255 := by
  unfold longB at h
  simpa using h
theorem on_short (l : List Nd) (fo : Bool) (g : Nat) (s : Sp) (todo : List (List UInt8)) (dir : Bool) (hs : s.name.length ≤ 255) (ht : ∀ n ∈ todo, n.length ≤ 255) : (onN l fo g s todo dir).1.name.length ≤ 255 := by
  have hz : (zeroS).name.length ≤ 255 := by decide
  match todo with
  | [] =>
    rw [on_nil]
    split
    · exact hz
    · exact hs
  | m :: r =>
    have hr : ∀ n ∈ r, n.length ≤ 255 := fun n hn => ht n (by simp [hn])
    by_cases h0 : s.ino = 0
    · rw [on_gone h0]; exact hz
    by_cases hk : (getN l s.ino).kind = 2
    · by_cases d1 : m = [46]
      · rw [on_dot h0 hk d1]; exact on_short l fo g _ r dir (by simp) hr
      by_cases d2 : m = [46, 46]
      · rw [on_dots h0 hk d2]; exact on_short l fo g _ r dir (by simp) hr
      cases hst : stopB l fo dir s.ino m r
      · match g with
        | 0 => rw [on_loop h0 hk d1 d2 hst]; exact hz
        | g + 1 =>
          cases hlo : longB (lnkD l s.ino m)
          · rw [on_link h0 hk d1 d2 hst hlo]
            refine on_short l fo g _ _ _ (by simp) fun n hn => ?_
            rcases List.mem_append.1 hn with hn | hn
            · exact (long_no hlo).2 n hn
            · exact hr n hn
          · rw [on_long h0 hk d1 d2 hst hlo]; exact hz
      · rw [on_stop h0 hk d1 d2 hst]
        exact on_short l fo g _ r dir (ht m (by simp)) hr
    · rw [on_file h0 hk]; exact hz
termination_by (g, todo.length)
theorem seek_short (l : List Nd) (base p : List UInt8) (fo : Bool) : (seekP l base p fo).1.name.length ≤ 255 := by
  have hz : (zeroS).name.length ≤ 255 := by decide
  unfold seekP
  split
  · exact hz
  split
  · exact hz
  rename_i hl
  have hn := (long_no (p := p) (by simpa using hl)).2
  split
  · exact on_short _ _ _ _ _ _ (by simp) hn
  split
  · exact hz
  · exact on_short _ _ _ _ _ _ (by simp) hn
theorem putF_bad {mi mb nx : Int} {l : List Nd} {base p : List UInt8} {k : Int} {data : List UInt8} {rf : Int} {ev : Go.Value} (h : (putF mi mb nx l base p k data rf ev).2 ≠ 0) : (putF mi mb nx l base p k data rf ev).1 = (nx, l) := by
  unfold putF newF at h ⊢
  split
  · rfl
  split
  · rfl
  split
  · rfl
  split
  · rfl
  split
  · rfl
  · rename_i h1 h2 h3 h4 h5
    rw [if_neg h1, if_neg h2, if_neg h3, if_neg h4, if_neg h5] at h
    exact absurd rfl h
theorem ents_few {L : List Nd} {m : Nat} (h : ∀ x ∈ L, x.ents.length ≤ m) : entsN L ≤ L.length * m := by
  induction L with
  | nil => simp [entsN]
  | cons x r ih =>
    have h1 := ih fun y hy => h y (by simp [hy])
    have h2 := h x (by simp)
    have e : entsN (x :: r) = x.ents.length + entsN r := by simp [entsN]
    rw [e, List.length_cons, Nat.add_mul]
    omega
theorem spot_has {mi mb nx : Int} {l : List Nd} (h : SoundP mi mb nx l) {s : Sp} (hs : Spot l s) (h0 : s.ino ≠ 0) : hasN l s.ino = true := by
  by_cases hn : s.name = []
  · exact (dir_parts (hs.bare hn).1).1
  · obtain ⟨g1, g2, g3⟩ := hs.entry hn
    rw [decide_eq_true h0] at g3
    have h1 := (has_num h.tree g3).1
    rw [g2] at h1
    exact h.there _ (get_mem (dir_parts g1).1).1 _ h1
theorem spot_gone {mi mb nx : Int} {l : List Nd} (h : SoundP mi mb nx l) {s : Sp} (hs : Spot l s) (h0 : s.ino ≠ 0) (hn : s.name ≠ []) (hb : (getN l s.ino).ents = []) : Gone l s.dir s.name s.ino := by
  obtain ⟨g1, g2, g3⟩ := hs.entry hn
  rw [decide_eq_true h0] at g3
  have h1 := (has_num h.tree g3).1
  rw [g2] at h1
  exact ⟨h1, hb⟩
/-- What a link is: an entry given. -/
structure LinkT (l : List Nd) (base src dst : List UInt8) (Z : List Nd × Int) (ev : Go.Value) (d i : Int) (n : List UInt8) : Prop where
  fro : ∃ sd sn, seekP l base src false = (⟨sd, sn, i⟩, 0)
  to_ : seekP l base dst false = (⟨d, n, 0⟩, 0)
  slash : slashB dst = false
  given : Given l d n i
  ans : Z.1 = naL l d n i ev
theorem link_ok {mi mb nx : Int} {l : List Nd} (h : SoundP mi mb nx l) {base src dst : List UInt8} {ev : Go.Value} (h0 : (linkF l base src dst ev).2 = 0) : ∃ d i n, LinkT l base src dst (linkF l base src dst ev) ev d i n := by
  have s1 := seek_spot h base src false
  have s2 := seek_spot h base dst false
  unfold linkF at h0 ⊢
  split at h0
  · rename_i c1; exact absurd h0 c1
  rename_i c1
  rw [if_neg c1]
  split at h0
  · cases h0
  rename_i c2
  rw [if_neg c2]
  split at h0
  · cases h0
  rename_i c3
  rw [if_neg c3]
  split at h0
  · rename_i c4; exact absurd h0 c4
  rename_i c4
  rw [if_neg c4]
  split at h0
  · cases h0
  rename_i c5
  rw [if_neg c5]
  split at h0
  · cases h0
  rename_i c6
  rw [if_neg c6]
  split at h0
  · cases h0
  rename_i c7
  rw [if_neg c7]
  have c1' : (seekP l base src false).2 = 0 := by simpa using c1
  have c4' : (seekP l base dst false).2 = 0 := by simpa using c4
  have c5' : (seekP l base dst false).1.ino = 0 := by simpa using c5
  have c6' : slashB dst = false := by simpa using c6
  have c7' : mayB (seekP l base dst false).1.name = true := by simpa using c7
  have p1 := s1.1 c1'
  have p2 := s2.1 c4'
  have hh := spot_has h p1 c2
  have hin := (get_mem hh).2
  obtain ⟨g1, g2, g3⟩ := p2.entry (mayB_good c7').2
  rw [hin]
  refine ⟨(seekP l base dst false).1.dir, (seekP l base src false).1.ino, (seekP l base dst false).1.name, ⟨_, _, Prod.ext rfl c1'⟩, Prod.ext ?_ c4', c6', ⟨g1, by rw [g3, c5']; rfl, c7', hh, c3⟩, rfl⟩
  show (seekP l base dst false).1 = ⟨_, _, 0⟩
  rw [← c5']
theorem link_bad {l : List Nd} {base src dst : List UInt8} {ev : Go.Value} (h0 : (linkF l base src dst ev).2 ≠ 0) : (linkF l base src dst ev).1 = l := by
  unfold linkF at h0 ⊢
  split
  · rfl
  split
  · rfl
  split
  · rfl
  split
  · rfl
  split
  · rfl
  split
  · rfl
  split
  · rfl
  · rename_i c1 c2 c3 c4 c5 c6 c7
    rw [if_neg c1, if_neg c2, if_neg c3, if_neg c4, if_neg c5, if_neg c6, if_neg c7] at h0
    exact absurd rfl h0
def tL (l : List Nd) (b : Sp) (ev : Go.Value) : List Nd := if b.ino ≠ 0 then unL l b.dir b.name b.ino ev else l
def renameF (l : List Nd) (base src dst : List UInt8) (ev e1 e2 : Go.Value) : List Nd × Int :=
  if (seekP l base src false).2 ≠ 0 then (l, (seekP l base src false).2)
  else if (seekP l base src false).1.ino = 0 then (l, 1)
  else if (seekP l base src false).1.name = [] then (l, 10)
  else if (seekP l base dst false).2 ≠ 0 then (l, (seekP l base dst false).2)
  else if (seekP l base dst false).1.name = [] then (l, 10)
  else if (seekP l base src false).1.ino = (seekP l base dst false).1.ino then (l, 0)
  else if (getN l (seekP l base src false).1.ino).kind = 2 ∧ insideN l (seekP l base dst false).1.dir (seekP l base src false).1.ino = true then (l, 9)
  else if (seekP l base dst false).1.ino = 0 then
    (if slashB dst = true ∧ (getN l (seekP l base src false).1.ino).kind ≠ 2 then (l, 3)
     else if mayB (seekP l base dst false).1.name = false then (l, 9)
     else (mvL (tL l (seekP l base dst false).1 ev) (seekP l base src false).1.dir (seekP l base src false).1.name (seekP l base src false).1.ino (seekP l base dst false).1.dir (seekP l base dst false).1.name e1 e2, 0))
  else if (getN l (seekP l base src false).1.ino).kind = 2 ∧ (getN l (seekP l base dst false).1.ino).kind ≠ 2 then (l, 3)
  else if (getN l (seekP l base dst false).1.ino).kind = 2 ∧ (getN l (seekP l base src false).1.ino).kind ≠ 2 then (l, 4)
  else if (getN l (seekP l base dst false).1.ino).ents.length > 0 then (l, 5)
  else (mvL (tL l (seekP l base dst false).1 ev) (seekP l base src false).1.dir (seekP l base src false).1.name (seekP l base src false).1.ino (seekP l base dst false).1.dir (seekP l base dst false).1.name e1 e2, 0)
/-- What a rename that moves something is. -/
structure RenT (l : List Nd) (A B : Sp) : Prop where
  aino : A.ino ≠ 0
  aname : A.name ≠ []
  bname : B.name ≠ []
  ne : A.ino ≠ B.ino
  out : ¬ ((getN l A.ino).kind = 2 ∧ insideN l B.dir A.ino = true)
  may : B.ino = 0 → mayB B.name = true
  bare : B.ino ≠ 0 → (getN l B.ino).ents = []
theorem ren_ok {l : List Nd} {base src dst : List UInt8} {ev e1 e2 : Go.Value} (h0 : (renameF l base src dst ev e1 e2).2 = 0) (hne : (seekP l base src false).1.ino ≠ (seekP l base dst false).1.ino) :
    (seekP l base src false).2 = 0 ∧ (seekP l base dst false).2 = 0 ∧ RenT l (seekP l base src false).1 (seekP l base dst false).1 ∧ (renameF l base src dst ev e1 e2).1 = mvL (tL l (seekP l base dst false).1 ev) (seekP l base src false).1.dir (seekP l base src false).1.name (seekP l base src false).1.ino (seekP l base dst false).1.dir (seekP l base dst false).1.name e1 e2 := by
  unfold renameF at h0 ⊢
  by_cases c0 : (seekP l base src false).2 ≠ 0
  · rw [if_pos c0] at h0; exact absurd h0 c0
  rw [if_neg c0] at h0 ⊢
  by_cases c1 : (seekP l base src false).1.ino = 0
  · rw [if_pos c1] at h0; cases h0
  rw [if_neg c1] at h0 ⊢
  by_cases c2 : (seekP l base src false).1.name = []
  · rw [if_pos c2] at h0; cases h0
  rw [if_neg c2] at h0 ⊢
  by_cases c3 : (seekP l base dst false).2 ≠ 0
  · rw [if_pos c3] at h0; exact absurd h0 c3
  rw [if_neg c3] at h0 ⊢
  by_cases c4 : (seekP l base dst false).1.name = []
  · rw [if_pos c4] at h0; cases h0
  rw [if_neg c4] at h0 ⊢
  rw [if_neg hne] at h0 ⊢
  by_cases c6 : (getN l (seekP l base src false).1.ino).kind = 2 ∧ insideN l (seekP l base dst false).1.dir (seekP l base src false).1.ino = true
  · rw [if_pos c6] at h0; cases h0
  rw [if_neg c6] at h0 ⊢
  by_cases c7 : (seekP l base dst false).1.ino = 0
  · rw [if_pos c7] at h0 ⊢
    by_cases c8 : slashB dst = true ∧ (getN l (seekP l base src false).1.ino).kind ≠ 2
    · rw [if_pos c8] at h0; cases h0
    rw [if_neg c8] at h0 ⊢
    by_cases c9 : mayB (seekP l base dst false).1.name = false
    · rw [if_pos c9] at h0; cases h0
    rw [if_neg c9]
    exact ⟨by simpa using c0, by simpa using c3, ⟨c1, c2, c4, hne, c6, fun _ => by simpa using c9, fun h => absurd c7 h⟩, rfl⟩
  · rw [if_neg c7] at h0 ⊢
    by_cases c8 : (getN l (seekP l base src false).1.ino).kind = 2 ∧ (getN l (seekP l base dst false).1.ino).kind ≠ 2
    · rw [if_pos c8] at h0; cases h0
    rw [if_neg c8] at h0 ⊢
    by_cases c9 : (getN l (seekP l base dst false).1.ino).kind = 2 ∧ (getN l (seekP l base src false).1.ino).kind ≠ 2
    · rw [if_pos c9] at h0; cases h0
    rw [if_neg c9] at h0 ⊢
    by_cases c10 : (getN l (seekP l base dst false).1.ino).ents.length > 0
    · rw [if_pos c10] at h0; cases h0
    rw [if_neg c10]
    exact ⟨by simpa using c0, by simpa using c3, ⟨c1, c2, c4, hne, c6, fun h => absurd h c7, fun _ => List.length_eq_zero_iff.1 (by omega)⟩, rfl⟩
theorem ren_gone {mi mb nx : Int} {l : List Nd} (h : SoundP mi mb nx l) {base src dst : List UInt8} (hq : (seekP l base dst false).2 = 0) {A : Sp} (t : RenT l A (seekP l base dst false).1) : (seekP l base dst false).1.ino ≠ 0 → Gone l (seekP l base dst false).1.dir (seekP l base dst false).1.name (seekP l base dst false).1.ino := fun hi =>
  spot_gone h ((seek_spot h base dst false).1 hq) hi t.bname (t.bare hi)
def statF (l : List Nd) (base p : List UInt8) (fo : Bool) : Nd × Int :=
  if (seekP l base p fo).2 ≠ 0 then (zeroN, (seekP l base p fo).2)
  else if hasN l (seekP l base p fo).1.ino = false then (zeroN, 1)
  else (getN l (seekP l base p fo).1.ino, 0)
def readF (l : List Nd) (base p : List UInt8) : List UInt8 × Int :=
  if (statF l base p true).2 ≠ 0 then ([], (statF l base p true).2)
  else if (statF l base p true).1.kind = 2 then ([], 4) else ((statF l base p true).1.data, 0)
def setF (mi mb : Int) (l : List Nd) (i : Int) (data : List UInt8) : List Nd × Int :=
  if fitsB mi mb l 0 ((data.length : Int) - ((getN l i).data.length : Int)) = false then (l, 8) else (dataL l i data, 0)
def writeF (mi mb : Int) (l : List Nd) (base p data : List UInt8) : List Nd × Int :=
  if (readF l base p).2 ≠ 0 then (l, (readF l base p).2) else setF mi mb l (statF l base p true).1.ino data
end Go.Proofs.YtkdmfeikikmiiaaGreat
namespace Go.Proofs
open Go.Shelf
def Tryz.lays169_ren : Go.Shelf.Ren := ⟨fun | 169 => 169 | n => n, fun | 70 => 177 | 9 => 9 | 0 => 0 | 72 => 179 | 37 => 143 | 127 => 144 | 3 => 3 | 5 => 5 | n => n, fun | n => n⟩
theorem Tryz.lays169 : Go.Proofs.Lays.n169 Tryz.prog Tryz.lays169_ren := {
  mixed := by kernel_rfl
  f169 := Tryz.func169.trans (congrArg some (by kernel_rfl))
  t0 := Tryz.underlying0
  a0 := Tryz.isAgg0
  z0 := Tryz.sizeOf0
  v0 := Tryz.zeroValue0
  t3 := Tryz.underlying3
  a3 := Tryz.isAgg3
  z3 := Tryz.sizeOf3
  v3 := Tryz.zeroValue3
  t9 := Tryz.underlying9
  a9 := Tryz.isAgg9
  z9 := Tryz.sizeOf9
  v9 := Tryz.zeroValue9
  t37 := Tryz.underlying143
  a37 := Tryz.isAgg143
  z37 := Tryz.sizeOf143
  v37 := Tryz.zeroValue143
  t70 := Tryz.underlying177
  a70 := Tryz.isAgg177
  z70 := Tryz.sizeOf177
  v70 := Tryz.zeroValue177
  t72 := Tryz.underlying179
  a72 := Tryz.isAgg179
  z72 := Tryz.sizeOf179
  v72 := Tryz.zeroValue179
  t127 := Tryz.underlying144
  a127 := Tryz.isAgg144
  z127 := Tryz.sizeOf144
  v127 := Tryz.zeroValue144 }
theorem Tryz.Builder_Extra_169 : Builder.Extra Tryz.prog Tryz.lays169_ren := {
  sizeBuilder := by kernel_rfl
  liesBuilder := by kernel_rfl
  t5 := Tryz.underlying5
  a5 := Tryz.isAgg5
  z5 := Tryz.sizeOf5
  v5 := Tryz.zeroValue5
  infoByte := by kernel_rfl
  cellsByte := by kernel_rfl
  sizeByte := by kernel_rfl
  neB5 := by decide }
open Go.RowKit in
/-- (*strings.Builder).String: "String returns the accumulated string.": WHATEVER THE BUILDER HOLDS. (LAID: no walk: one application.) -/
theorem Tryz.Builder_String_any (B b : Nat) (l : List UInt8) (w : World) (h : Lib.IsBuilder 179 5 B b (Lib.byteCells l) w) (hBw : B ≤ w.heap.size) :
    Calls Tryz.prog 169 #[.pointer (some ⟨b, 0, none⟩)] w fun e w' => e = .returned (.string ⟨l.toArray⟩) ∧ Below B w w' := Any.Builder_String_any Tryz.lays169 Tryz.Builder_Extra_169 B b l w h hBw
def Tryz.lays119_ren : Go.Shelf.Ren := ⟨fun | 119 => 157 | n => n, fun | 21 => 21 | 4 => 4 | n => n, fun | n => n⟩
theorem Tryz.lays119 : Go.Proofs.Lays.n119 Tryz.prog Tryz.lays119_ren := {
  mixed := by kernel_rfl
  f119 := Tryz.func157.trans (congrArg some (by kernel_rfl))
  t4 := Tryz.underlying4
  a4 := Tryz.isAgg4
  z4 := Tryz.sizeOf4
  v4 := Tryz.zeroValue4
  t21 := Tryz.underlying21
  a21 := Tryz.isAgg21
  z21 := Tryz.sizeOf21
  v21 := Tryz.zeroValue21 }
/-- utf8.ValidRune: "ValidRune reports whether r can be legally encoded as UTF-8. Code points that are out of range or a surrogate half are illegal.": IT RETURNS 'Lib.validRune r'; the world is as it was. (LAID: no walk: one application.) -/
theorem Tryz.utf8_ValidRune (r : Int) (w : World) :
    Calls Tryz.prog 157 #[.int .i32 r] w fun e w' => e = .returned (.bool (Lib.validRune r)) ∧ w' = w := Any.utf8_ValidRune Tryz.lays119 r w
def Tryz.lays213_ren : Go.Shelf.Ren := ⟨fun | 213 => 165 | 265 => 167 | n => n, fun | 9 => 9 | 3 => 3 | n => n, fun | n => n⟩
def Tryz.lays106_ren : Go.Shelf.Ren := ⟨fun | 106 => 160 | 213 => 165 | 265 => 167 | n => n, fun | 9 => 9 | 3 => 3 | n => n, fun | n => n⟩
theorem Tryz.lays106 : Go.Proofs.Lays.n106 Tryz.prog Tryz.lays106_ren := {
  mixed := by kernel_rfl
  f106 := Tryz.func160.trans (congrArg some (by kernel_rfl))
  f213 := Tryz.func165.trans (congrArg some (by kernel_rfl))
  f265 := Tryz.func167.trans (congrArg some (by kernel_rfl))
  t3 := Tryz.underlying3
  a3 := Tryz.isAgg3
  z3 := Tryz.sizeOf3
  v3 := Tryz.zeroValue3
  t9 := Tryz.underlying9
  a9 := Tryz.isAgg9
  z9 := Tryz.sizeOf9
  v9 := Tryz.zeroValue9 }
open Go.RowKit in
/-- strings.Compare: "Compare returns an integer comparing two strings lexicographically. The result will be 0 if a == b, -1 if a < b, and +1 if a > b.": IT RETURNS 'Lib.compareBytes a b'; the world is as it was. (LAID: no walk: one application.) -/
theorem Tryz.strings_Compare (a b : ByteArray) (w : World) :
    Calls Tryz.prog 160 #[.string a, .string b] w fun e w' => e = .returned (.int .i64 (Lib.compareBytes a.data.toList b.data.toList)) ∧ w' = w := Any.strings_Compare Tryz.lays106 a b w
def Tryz.lays137_ren : Go.Shelf.Ren := ⟨fun | 137 => 156 | 217 => 151 | 266 => 162 | n => n, fun | 9 => 9 | 5 => 5 | 3 => 3 | n => n, fun | n => n⟩
theorem Tryz.lays137 : Go.Proofs.Lays.n137 Tryz.prog Tryz.lays137_ren := {
  mixed := by kernel_rfl
  f137 := Tryz.func156.trans (congrArg some (by kernel_rfl))
  f217 := Tryz.func151.trans (congrArg some (by kernel_rfl))
  f266 := Tryz.func162.trans (congrArg some (by kernel_rfl))
  t3 := Tryz.underlying3
  a3 := Tryz.isAgg3
  z3 := Tryz.sizeOf3
  v3 := Tryz.zeroValue3
  t5 := Tryz.underlying5
  a5 := Tryz.isAgg5
  z5 := Tryz.sizeOf5
  v5 := Tryz.zeroValue5
  t9 := Tryz.underlying9
  a9 := Tryz.isAgg9
  z9 := Tryz.sizeOf9
  v9 := Tryz.zeroValue9 }
open Go.RowKit in
/-- strings.IndexByte: "IndexByte returns the index of the first instance of c in s, or -1 if c is not present in s.": IT RETURNS 'Lib.indexByte s c'; the world is as it was. (LAID: no walk: one application.) -/
theorem Tryz.strings_IndexByte (s : ByteArray) (c : Int) (w : World) :
    Calls Tryz.prog 156 #[.string s, .int .u8 c] w fun e w' => e = .returned (.int .i64 (Lib.indexByte s.data.toList c.toNat.toUInt8)) ∧ w' = w := Any.strings_IndexByte Tryz.lays137 s c w
def Tryz.lays215_ren : Go.Shelf.Ren := ⟨fun | 215 => 149 | n => n, fun | 3 => 3 | 4 => 4 | n => n, fun | n => n⟩
def Tryz.lays122_ren : Go.Shelf.Ren := ⟨fun | 122 => 137 | 215 => 149 | n => n, fun | 3 => 3 | 4 => 4 | n => n, fun | n => n⟩
theorem Tryz.lays122 : Go.Proofs.Lays.n122 Tryz.prog Tryz.lays122_ren := {
  mixed := by kernel_rfl
  f122 := Tryz.func137.trans (congrArg some (by kernel_rfl))
  f215 := Tryz.func149.trans (congrArg some (by kernel_rfl))
  t3 := Tryz.underlying3
  a3 := Tryz.isAgg3
  z3 := Tryz.sizeOf3
  v3 := Tryz.zeroValue3
  t4 := Tryz.underlying4
  a4 := Tryz.isAgg4
  z4 := Tryz.sizeOf4
  v4 := Tryz.zeroValue4 }
open Go.RowKit in
/-- cmp.Compare at int: "Compare returns -1 if x is less than y, 0 if x equals y, +1 if x is greater than y.": IT RETURNS 'Lib.compareInt x y'; the world is as it was. (LAID: no walk: one application.) -/
theorem Tryz.cmp_Compare_int (x y : Int) (w : World) :
    Calls Tryz.prog 137 #[.int .i64 x, .int .i64 y] w fun e w' => e = .returned (.int .i64 (Lib.compareInt x y)) ∧ w' = w := Any.cmp_Compare_int Tryz.lays122 x y w
def Tryz.laysM316_ren : Go.Shelf.Ren := ⟨fun | 316 => 118 | n => n, fun | 9 => 9 | 3 => 3 | 4 => 4 | 37 => 143 | 0 => 0 | 127 => 144 | 5 => 5 | n => n, fun | n => n⟩
theorem Tryz.laysM316 : Go.Proofs.LaysM.n316 Tryz.prog Tryz.laysM316_ren := {
  mixed := by kernel_rfl
  f316 := Tryz.func118.trans (congrArg some (by kernel_rfl))
  t0 := Tryz.underlying0
  a0 := Tryz.isAgg0
  z0 := Tryz.sizeOf0
  v0 := Tryz.zeroValue0
  t3 := Tryz.underlying3
  a3 := Tryz.isAgg3
  z3 := Tryz.sizeOf3
  v3 := Tryz.zeroValue3
  t4 := Tryz.underlying4
  a4 := Tryz.isAgg4
  z4 := Tryz.sizeOf4
  v4 := Tryz.zeroValue4
  t9 := Tryz.underlying9
  a9 := Tryz.isAgg9
  z9 := Tryz.sizeOf9
  v9 := Tryz.zeroValue9
  t37 := Tryz.underlying143
  a37 := Tryz.isAgg143
  z37 := Tryz.sizeOf143
  v37 := Tryz.zeroValue143
  t127 := Tryz.underlying144
  a127 := Tryz.isAgg144
  z127 := Tryz.sizeOf144
  v127 := Tryz.zeroValue144
  t5 := Tryz.underlying5
  a5 := Tryz.isAgg5
  z5 := Tryz.sizeOf5
  v5 := Tryz.zeroValue5
  i0 := by kernel_rfl
  i3 := by kernel_rfl
  i4 := by kernel_rfl
  i5 := by kernel_rfl
  i9 := by kernel_rfl
  i37 := by kernel_rfl
  i127 := by kernel_rfl }
open Go.RowKit in
/-- internal/stringslite.Clone (what strings.Clone calls): "Clone returns a fresh copy of s.": THE SAME BYTES. Of what was there nothing has turned (a new row is laid, and frozen, where s is not empty). (LAID: no walk: one application.) -/
theorem Tryz.stringslite_Clone (s : ByteArray) (w : World) (hlim : s.size ≤ 281474976710656) :
    Calls Tryz.prog 118 #[.string s] w fun e w' => e = .returned (.string s) ∧ Below w.heap.size w w' := Any.stringslite_Clone Tryz.laysM316 s w hlim
def Tryz.lays219_ren : Go.Shelf.Ren := ⟨fun | 219 => 139 | 217 => 151 | 225 => 152 | 224 => 153 | 267 => 154 | 266 => 162 | 314 => 163 | n => n, fun | 9 => 9 | 3 => 3 | 4 => 4 | 5 => 5 | 46 => 163 | 146 => 173 | 51 => 172 | n => n, fun | 1 => 0 | n => n⟩
theorem Tryz.lays219 : Go.Proofs.Lays.n219 Tryz.prog Tryz.lays219_ren := {
  mixed := by kernel_rfl
  f217 := Tryz.func151.trans (congrArg some (by kernel_rfl))
  f219 := Tryz.func139.trans (congrArg some (by kernel_rfl))
  f224 := Tryz.func153.trans (congrArg some (by kernel_rfl))
  f225 := Tryz.func152.trans (congrArg some (by kernel_rfl))
  f266 := Tryz.func162.trans (congrArg some (by kernel_rfl))
  f267 := Tryz.func154.trans (congrArg some (by kernel_rfl))
  f314 := Tryz.func163.trans (congrArg some (by kernel_rfl))
  t3 := Tryz.underlying3
  a3 := Tryz.isAgg3
  z3 := Tryz.sizeOf3
  v3 := Tryz.zeroValue3
  t4 := Tryz.underlying4
  a4 := Tryz.isAgg4
  z4 := Tryz.sizeOf4
  v4 := Tryz.zeroValue4
  t5 := Tryz.underlying5
  a5 := Tryz.isAgg5
  z5 := Tryz.sizeOf5
  v5 := Tryz.zeroValue5
  t9 := Tryz.underlying9
  a9 := Tryz.isAgg9
  z9 := Tryz.sizeOf9
  v9 := Tryz.zeroValue9
  t46 := Tryz.underlying163
  a46 := Tryz.isAgg163
  z46 := Tryz.sizeOf163
  v46 := Tryz.zeroValue163
  t51 := Tryz.underlying172
  a51 := Tryz.isAgg172
  z51 := Tryz.sizeOf172
  v51 := Tryz.zeroValue172
  t146 := Tryz.underlying173
  a146 := Tryz.isAgg173
  z146 := Tryz.sizeOf173
  v146 := Tryz.zeroValue173
  g1 := by kernel_rfl }
open Go.RowKit Go.Lib in
/-- internal/stringslite.Index (what strings.Index calls) AT A substr OF ONE BYTE c: IT RETURNS 'Lib.indexByte s c'; the world is as it was. (LAID: no walk: one application.) -/
theorem Tryz.stringslite_Index_one (s : ByteArray) (c : UInt8) (w : World) :
    Calls Tryz.prog 139 #[.string s, .string ⟨#[c]⟩] w fun e w' => e = .returned (.int .i64 (Lib.indexByte s.data.toList c)) ∧ w' = w := Any.stringslite_Index_one Tryz.lays219 s c w
def Tryz.lays144_ren : Go.Shelf.Ren := ⟨fun | 144 => 101 | 143 => 122 | 219 => 139 | 217 => 151 | 225 => 152 | 224 => 153 | 267 => 154 | 266 => 162 | 314 => 163 | n => n, fun | 9 => 9 | 4 => 4 | 3 => 3 | 5 => 5 | 46 => 163 | 146 => 173 | 51 => 172 | n => n, fun | 1 => 0 | n => n⟩
theorem Tryz.lays144 : Go.Proofs.Lays.n144 Tryz.prog Tryz.lays144_ren := {
  mixed := by kernel_rfl
  f143 := Tryz.func122.trans (congrArg some (by kernel_rfl))
  f144 := Tryz.func101.trans (congrArg some (by kernel_rfl))
  f217 := Tryz.func151.trans (congrArg some (by kernel_rfl))
  f219 := Tryz.func139.trans (congrArg some (by kernel_rfl))
  f224 := Tryz.func153.trans (congrArg some (by kernel_rfl))
  f225 := Tryz.func152.trans (congrArg some (by kernel_rfl))
  f266 := Tryz.func162.trans (congrArg some (by kernel_rfl))
  f267 := Tryz.func154.trans (congrArg some (by kernel_rfl))
  f314 := Tryz.func163.trans (congrArg some (by kernel_rfl))
  t3 := Tryz.underlying3
  a3 := Tryz.isAgg3
  z3 := Tryz.sizeOf3
  v3 := Tryz.zeroValue3
  t4 := Tryz.underlying4
  a4 := Tryz.isAgg4
  z4 := Tryz.sizeOf4
  v4 := Tryz.zeroValue4
  t5 := Tryz.underlying5
  a5 := Tryz.isAgg5
  z5 := Tryz.sizeOf5
  v5 := Tryz.zeroValue5
  t9 := Tryz.underlying9
  a9 := Tryz.isAgg9
  z9 := Tryz.sizeOf9
  v9 := Tryz.zeroValue9
  t46 := Tryz.underlying163
  a46 := Tryz.isAgg163
  z46 := Tryz.sizeOf163
  v46 := Tryz.zeroValue163
  t51 := Tryz.underlying172
  a51 := Tryz.isAgg172
  z51 := Tryz.sizeOf172
  v51 := Tryz.zeroValue172
  t146 := Tryz.underlying173
  a146 := Tryz.isAgg173
  z146 := Tryz.sizeOf173
  v146 := Tryz.zeroValue173
  g1 := by kernel_rfl }
open Go.RowKit Go.Lib in
/-- strings.Contains: "Contains reports whether substr is within s.": AT A substr OF ONE BYTE c: IT RETURNS 'decide (0 ≤ Lib.indexByte s c)'; the world is as it was. (LAID: no walk: one application.) -/
theorem Tryz.strings_Contains_one (s : ByteArray) (c : UInt8) (w : World) :
    Calls Tryz.prog 101 #[.string s, .string ⟨#[c]⟩] w fun e w' => e = .returned (.bool (decide (0 ≤ Lib.indexByte s.data.toList c))) ∧ w' = w := Any.strings_Contains_one Tryz.lays144 s c w
def Tryz.lays206_ren : Go.Shelf.Ren := ⟨fun | 206 => 133 | n => n, fun | 9 => 9 | 4 => 4 | 3 => 3 | n => n, fun | n => n⟩
def Tryz.lays99_ren : Go.Shelf.Ren := ⟨fun | 99 => 115 | 206 => 133 | n => n, fun | 9 => 9 | 4 => 4 | 3 => 3 | n => n, fun | n => n⟩
theorem Tryz.lays99 : Go.Proofs.Lays.n99 Tryz.prog Tryz.lays99_ren := {
  mixed := by kernel_rfl
  f99 := Tryz.func115.trans (congrArg some (by kernel_rfl))
  f206 := Tryz.func133.trans (congrArg some (by kernel_rfl))
  t3 := Tryz.underlying3
  a3 := Tryz.isAgg3
  z3 := Tryz.sizeOf3
  v3 := Tryz.zeroValue3
  t4 := Tryz.underlying4
  a4 := Tryz.isAgg4
  z4 := Tryz.sizeOf4
  v4 := Tryz.zeroValue4
  t9 := Tryz.underlying9
  a9 := Tryz.isAgg9
  z9 := Tryz.sizeOf9
  v9 := Tryz.zeroValue9 }
open Go.RowKit Go.Lib in
/-- strings.HasPrefix: "HasPrefix reports whether the string s begins with prefix.": IT RETURNS 'Lib.hasPrefix s prefix'; the world is as it was. (LAID: no walk: one application.) -/
theorem Tryz.strings_HasPrefix (s p : ByteArray) (w : World) :
    Calls Tryz.prog 115 #[.string s, .string p] w fun e w' => e = .returned (.bool (Lib.hasPrefix s.data.toList p.data.toList)) ∧ w' = w := Any.strings_HasPrefix Tryz.lays99 s p w
def Tryz.lays100_ren : Go.Shelf.Ren := ⟨fun | 100 => 97 | 207 => 119 | n => n, fun | 9 => 9 | 4 => 4 | 3 => 3 | n => n, fun | n => n⟩
theorem Tryz.lays100 : Go.Proofs.Lays.n100 Tryz.prog Tryz.lays100_ren := {
  mixed := by kernel_rfl
  f100 := Tryz.func97.trans (congrArg some (by kernel_rfl))
  f207 := Tryz.func119.trans (congrArg some (by kernel_rfl))
  t3 := Tryz.underlying3
  a3 := Tryz.isAgg3
  z3 := Tryz.sizeOf3
  v3 := Tryz.zeroValue3
  t4 := Tryz.underlying4
  a4 := Tryz.isAgg4
  z4 := Tryz.sizeOf4
  v4 := Tryz.zeroValue4
  t9 := Tryz.underlying9
  a9 := Tryz.isAgg9
  z9 := Tryz.sizeOf9
  v9 := Tryz.zeroValue9 }
open Go.RowKit Go.Lib in
/-- strings.HasSuffix: "HasSuffix reports whether the string s ends with suffix.": IT RETURNS 'Lib.hasSuffix s suffix'; the world is as it was. ('hs': no Go string is longer: a caller has it of every string that it was handed.) (LAID: no walk: one application.) -/
theorem Tryz.strings_HasSuffix (s p : ByteArray) (w : World) (hs : s.size ≤ 9223372036854775807) :
    Calls Tryz.prog 97 #[.string s, .string p] w fun e w' => e = .returned (.bool (Lib.hasSuffix s.data.toList p.data.toList)) ∧ w' = w := Any.strings_HasSuffix Tryz.lays100 s p w hs
def Tryz.lays152_ren : Go.Shelf.Ren := ⟨fun | 152 => 143 | 137 => 156 | 119 => 157 | 224 => 153 | 225 => 152 | 217 => 151 | 266 => 162 | n => n, fun | 9 => 9 | 21 => 21 | 3 => 3 | 4 => 4 | 5 => 5 | 0 => 0 | 46 => 163 | n => n, fun | n => n⟩
theorem Tryz.lays152 : Go.Proofs.Lays.n152 Tryz.prog Tryz.lays152_ren := {
  mixed := by kernel_rfl
  f119 := Tryz.func157.trans (congrArg some (by kernel_rfl))
  f137 := Tryz.func156.trans (congrArg some (by kernel_rfl))
  f152 := Tryz.func143.trans (congrArg some (by kernel_rfl))
  f217 := Tryz.func151.trans (congrArg some (by kernel_rfl))
  f224 := Tryz.func153.trans (congrArg some (by kernel_rfl))
  f225 := Tryz.func152.trans (congrArg some (by kernel_rfl))
  f266 := Tryz.func162.trans (congrArg some (by kernel_rfl))
  t0 := Tryz.underlying0
  a0 := Tryz.isAgg0
  z0 := Tryz.sizeOf0
  v0 := Tryz.zeroValue0
  t3 := Tryz.underlying3
  a3 := Tryz.isAgg3
  z3 := Tryz.sizeOf3
  v3 := Tryz.zeroValue3
  t4 := Tryz.underlying4
  a4 := Tryz.isAgg4
  z4 := Tryz.sizeOf4
  v4 := Tryz.zeroValue4
  t5 := Tryz.underlying5
  a5 := Tryz.isAgg5
  z5 := Tryz.sizeOf5
  v5 := Tryz.zeroValue5
  t9 := Tryz.underlying9
  a9 := Tryz.isAgg9
  z9 := Tryz.sizeOf9
  v9 := Tryz.zeroValue9
  t21 := Tryz.underlying21
  a21 := Tryz.isAgg21
  z21 := Tryz.sizeOf21
  v21 := Tryz.zeroValue21
  t46 := Tryz.underlying163
  a46 := Tryz.isAgg163
  z46 := Tryz.sizeOf163
  v46 := Tryz.zeroValue163 }
open Go.RowKit Go.Lib in
theorem Tryz.strings_IndexRune_ascii (s : ByteArray) (r : Int) (w : World) (h0 : 0 ≤ r) (h1 : r < 128) :
    Calls Tryz.prog 143 #[.string s, .int .i32 r] w fun e w' => e = .returned (.int .i64 (Lib.indexByte s.data.toList r.toNat.toUInt8)) ∧ w' = w := Any.strings_IndexRune_ascii Tryz.lays152 s r w h0 h1
def Tryz.lays226_ren : Go.Shelf.Ren := ⟨fun | 226 => 144 | n => n, fun | 3 => 3 | 4 => 4 | n => n, fun | n => n⟩
theorem Tryz.lays226 : Go.Proofs.Lays.n226 Tryz.prog Tryz.lays226_ren := {
  mixed := by kernel_rfl
  f226 := Tryz.func144.trans (congrArg some (by kernel_rfl))
  t3 := Tryz.underlying3
  a3 := Tryz.isAgg3
  z3 := Tryz.sizeOf3
  v3 := Tryz.zeroValue3
  t4 := Tryz.underlying4
  a4 := Tryz.isAgg4
  z4 := Tryz.sizeOf4
  v4 := Tryz.zeroValue4 }
open Go.RowKit Go.Lib in
theorem Tryz.strings_shouldUseASCIISet (n : Int) (w : World) :
    Calls Tryz.prog 144 #[.int .i64 n] w fun e w' => e = .returned (.bool (decide (8 < n))) ∧ w' = w := Any.strings_shouldUseASCIISet Tryz.lays226 n w
def Tryz.lays153_ren : Go.Shelf.Ren := ⟨fun | 153 => 128 | 152 => 143 | 226 => 144 | 227 => 145 | 228 => 146 | 137 => 156 | 119 => 157 | 224 => 153 | 225 => 152 | 217 => 151 | 266 => 162 | n => n, fun | 9 => 9 | 3 => 3 | 4 => 4 | 5 => 5 | 21 => 21 | 117 => 157 | 116 => 156 | 0 => 0 | 46 => 163 | 124 => 168 | n => n, fun | n => n⟩
theorem Tryz.lays153 : Go.Proofs.Lays.n153 Tryz.prog Tryz.lays153_ren := {
  mixed := by kernel_rfl
  f119 := Tryz.func157.trans (congrArg some (by kernel_rfl))
  f137 := Tryz.func156.trans (congrArg some (by kernel_rfl))
  f152 := Tryz.func143.trans (congrArg some (by kernel_rfl))
  f153 := Tryz.func128.trans (congrArg some (by kernel_rfl))
  f217 := Tryz.func151.trans (congrArg some (by kernel_rfl))
  f224 := Tryz.func153.trans (congrArg some (by kernel_rfl))
  f225 := Tryz.func152.trans (congrArg some (by kernel_rfl))
  f226 := Tryz.func144.trans (congrArg some (by kernel_rfl))
  f227 := Tryz.func145.trans (congrArg some (by kernel_rfl))
  f228 := Tryz.func146.trans (congrArg some (by kernel_rfl))
  f266 := Tryz.func162.trans (congrArg some (by kernel_rfl))
  t0 := Tryz.underlying0
  a0 := Tryz.isAgg0
  z0 := Tryz.sizeOf0
  v0 := Tryz.zeroValue0
  t3 := Tryz.underlying3
  a3 := Tryz.isAgg3
  z3 := Tryz.sizeOf3
  v3 := Tryz.zeroValue3
  t4 := Tryz.underlying4
  a4 := Tryz.isAgg4
  z4 := Tryz.sizeOf4
  v4 := Tryz.zeroValue4
  t5 := Tryz.underlying5
  a5 := Tryz.isAgg5
  z5 := Tryz.sizeOf5
  v5 := Tryz.zeroValue5
  t9 := Tryz.underlying9
  a9 := Tryz.isAgg9
  z9 := Tryz.sizeOf9
  v9 := Tryz.zeroValue9
  t21 := Tryz.underlying21
  a21 := Tryz.isAgg21
  z21 := Tryz.sizeOf21
  v21 := Tryz.zeroValue21
  t46 := Tryz.underlying163
  a46 := Tryz.isAgg163
  z46 := Tryz.sizeOf163
  v46 := Tryz.zeroValue163
  t116 := Tryz.underlying156
  a116 := Tryz.isAgg156
  z116 := Tryz.sizeOf156
  t117 := Tryz.underlying157
  a117 := Tryz.isAgg157
  z117 := Tryz.sizeOf157
  v117 := Tryz.zeroValue157
  t124 := Tryz.underlying168
  a124 := Tryz.isAgg168
  z124 := Tryz.sizeOf168
  v124 := Tryz.zeroValue168 }
open Go.RowKit Go.Lib in
theorem Tryz.strings_IndexAny_long (hv116 : ∀ w, (zeroValue 156).run Tryz.prog w = .ok (.agg (Array.replicate 256 (.bool false))) w) (s chars : ByteArray) (w : World) (h2 : 2 ≤ chars.size) (h8 : 8 < s.size) (hs : s.size < 4294967281) (hcs : chars.size < 4294967281) (hascii : ∀ (j : Nat) b, chars.data.toList[j]? = some b → b.toNat < 128) :
    Calls Tryz.prog 128 #[.string s, .string chars] w fun e w' => e = .returned (.int .i64 (Lib.indexAny s.data.toList chars.data.toList)) ∧ w' = ((w.alloc (.cells (Lib.setCells chars.data.toList) 156)).alloc (.cells (Lib.setCells chars.data.toList) 156)) := Any.strings_IndexAny_long Tryz.lays153 hv116 (by kernel_rfl) s chars w h2 h8 hs hcs hascii
end Go.Proofs
namespace Go.Proofs.YtkdmfeikikmiiaaGreat
open Go.RowKit
theorem holdN_any (x : Nd) (n : Int) (w : World) :
    Calls Tryz.prog 136 #[.agg (ndC x), .int .i64 n] w fun e w' => e = .returned (.int .i64 (Lib.compareInt x.ino n)) ∧ Below w.heap.size w w' := by
  go_enter Tryz.func136, Tryz.ntmps136
  have hb : Below w.heap.size w (w.alloc (.cells (ndC x) 49)) := (Below.refl _ w).alloc (Nat.le_refl _) _
  go_wp2_with fail; refine (Tryz.cmp_Compare_int _ _ _).mono ?_; rintro e w' ⟨rfl, rfl⟩
  go_wp2
  go_ret
  exact ⟨rfl, hb⟩
theorem cmpI_lt (x y : Int) : decide (Lib.compareInt x y < 0) = decide (x < y) := by
  unfold Lib.compareInt; split
  · simp [*]
  · split <;> simp [*]
theorem cmpI_eq (x y : Int) : (Lib.compareInt x y == 0) = (x == y) := by
  unfold Lib.compareInt; split
  · have : x ≠ y := by omega
    simp [this]
  · split
    · have : x ≠ y := by omega
      simp [this]
    · have : x = y := by omega
      simp [this]
set_option maxHeartbeats 2000000 in
theorem halvesN_any (l : List Nd) (n : Int) (v : Value) (w : World) (hv : Nds w v l) (hs : riseP l) (hl : l.length ≤ 1000000) :
    Calls Tryz.prog 135 #[v, .int .i64 n, .func (.func 136) #[] #[]] w fun e w' =>
      ∃ lo : Nat, e = .returned (.tuple #[.int .i64 lo, .bool (hasN l n)]) ∧ SrchN l n lo ∧ Below w.heap.size w w' := by
  obtain ⟨a, ca, rfl, hc, hm, _, _, HA0⟩ := hv
  unfold maxLen at hm
  have HA := Lib.hid HA0
  have HS := Lib.hid hs
  clear HA0 hs
  go_enter Tryz.func135, Tryz.ntmps135
  go_wp2
  go_loopg [9, 10] l.length (fun g s9 s10 wr => ∃ lo hi : Nat, s9 = .int .i64 lo ∧ s10 = .int .i64 hi ∧ lo ≤ hi ∧ hi ≤ l.length ∧ hi - lo ≤ g ∧ Below w.heap.size w wr ∧
    Aside ((∀ t (ht : t < l.length), t < lo → l[t].ino < n) ∧ (∀ t (ht : t < l.length), hi ≤ t → n ≤ l[t].ino)))
  case atStart => exact ⟨0, l.length, rfl, rfl, Nat.zero_le _, Nat.le_refl _, by omega, Below.refl _ _, ⟨fun t ht h => by omega, fun t ht h => by omega⟩⟩
  case round =>
    obtain ⟨lo, hi, rfl, rfl, hlh, hin, hg, hbw, I⟩ := hrel
    by_cases hlt : lo < hi
    · obtain ⟨b, o, rfl, hb, hcl⟩ := HA.out (by omega)
      have hmid : (lo + hi) / 2 < l.length := by omega
      obtain ⟨c1, c2, c3, c4, c5, c6⟩ := (hcl _ hmid).below hbw hb
      clear hcl
      generalize hy : l[(lo + hi) / 2] = y at c1 c2 c3 c4 c5 c6
      have Y := Lib.hid hy
      clear hy
      have CM := Lib.hid (cmpI_lt y.ino n)
      go_wp2_with fail
      refine (holdN_any y n _).mono ?_
      rintro e w2 ⟨rfl, b2⟩
      replace hbw := hbw.trans (b2.mono hbw.size)
      by_cases hl1 : y.ino < n
      · have hcm : decide (Lib.compareInt y.ino n < 0) = true := CM.out.trans (decide_eq_true hl1)
        have I2 := Lib.hid (show (∀ t (ht : t < l.length), t < (lo + hi) / 2 + 1 → l[t].ino < n) ∧ (∀ t (ht : t < l.length), hi ≤ t → n ≤ l[t].ino) from ⟨fun t ht h => by
          have := rise_upto HS.out hmid (a := t) (by omega); rw [Y.out] at this; omega, I.out.2⟩)
        clear hl1
        go_wp2
        go_roundg (hi - ((lo + hi) / 2 + 1))
        case measure => omega
        case rel => exact ⟨(lo + hi) / 2 + 1, hi, by rw [show ((lo : Int) + (hi : Int)) / 2 + 1 = (((lo + hi) / 2 + 1 : Nat) : Int) by omega], rfl, by omega, hin, Nat.le_refl _, hbw, I2.out⟩
      · have hcm : decide (Lib.compareInt y.ino n < 0) = false := CM.out.trans (decide_eq_false hl1)
        have I2 := Lib.hid (show (∀ t (ht : t < l.length), t < lo → l[t].ino < n) ∧ (∀ t (ht : t < l.length), (lo + hi) / 2 ≤ t → n ≤ l[t].ino) from ⟨I.out.1, fun t ht h => by
          have := rise_upto HS.out ht (a := (lo + hi) / 2) h; rw [Y.out] at this; omega⟩)
        clear hl1
        go_wp2
        go_roundg ((lo + hi) / 2 - lo)
        case measure => omega
        case rel => exact ⟨lo, (lo + hi) / 2, rfl, by rw [show ((lo : Int) + (hi : Int)) / 2 = (((lo + hi) / 2 : Nat) : Int) by omega], by omega, by omega, Nat.le_refl _, hbw, I2.out⟩
    · obtain rfl : hi = lo := by omega
      have SE := Lib.hid (srchN_end HS.out hin I.out.1 I.out.2)
      by_cases hn : hi < l.length
      · obtain ⟨b, o, rfl, hb, hcl⟩ := HA.out (by omega)
        obtain ⟨c1, c2, c3, c4, c5, c6⟩ := (hcl _ hn).below hbw hb
        clear hcl
        have SH : Hid (hasN l n = (l[hi].ino == n)) := by (show _ = _); rw [SE.out.2, dif_pos hn]
        generalize hy : l[hi] = y at c1 c2 c3 c4 c5 c6 SH
        clear hy
        have CM := Lib.hid (cmpI_eq y.ino n)
        go_wp2_with fail
        refine (holdN_any y n _).mono ?_
        rintro e w2 ⟨rfl, b2⟩
        replace hbw := hbw.trans (b2.mono hbw.size)
        go_wp2
        go_ret2
        exact ⟨hi, by rw [SH.out, ← CM.out]; rfl, SE.out.1, hbw⟩
      · have SH : Hid (hasN l n = false) := by (show _ = _); rw [SE.out.2, dif_neg hn]
        go_wp2
        go_ret2
        exact ⟨hi, by rw [SH.out]; rfl, SE.out.1, hbw⟩
theorem searchN_any (l : List Nd) (n : Int) (v : Value) (w : World) (hv : Nds w v l) (hs : riseP l) (hl : l.length ≤ 1000000) :
    Calls Tryz.prog 120 #[v, .int .i64 n] w fun e w' =>
      ∃ lo : Nat, e = .returned (.tuple #[.int .i64 lo, .bool (hasN l n)]) ∧ SrchN l n lo ∧ Below w.heap.size w w' := by
  obtain ⟨a, ca, rfl, hc, hm, HA0⟩ := id hv
  clear HA0
  go_enter Tryz.func120, Tryz.ntmps120
  go_wp2_with fail; refine (halvesN_any l n _ _ hv hs hl).mono ?_; rintro e w1 ⟨lo, rfl, hS, hb⟩
  go_wp2
  go_ret2
  exact ⟨lo, rfl, hS, hb⟩
theorem infoN : (Tryz.prog.info? 49).map (fun i => (i.zero, i.size, i.bytes)) = some (some (.agg #[.int .i64 0, .int .i64 0, .int .i64 0, .string ⟨#[]⟩, .int .i64 0, .slice none 0 0]), 6, 72) := by kernel_rfl
/-- 'append(s, x...)' onto what is the call's own, whatever slice x is. -/
theorem wpList_append_any {P : Program} {w : World} {ops : Array Oper} {rest : List Oper} {o : Oper} {a : Act} {Q : Exit → Act → World → Prop} (hgd : o.guard = none) (s x : Operand) (t e : TypeId)
    (ho : o.op = .call { callee := .builtin .append, args := #[s, x], argTypes := #[t, t] })
    {i : TypeInfo} {z : Value} {size bytes : Nat} (ht : P.underlying t = some (.slice e)) (hi : P.info? e = some i) (hz : i.zero = some z)
    (hsize : i.size = size) (hby : i.bytes = bytes) (hzs : z.cells.size = size) (hsz : 0 < size) (hbs : bytes ≤ 128)
    (base : Nat) {v : Value} {n : Nat} {xs : List Value} (ao : Option Addr) (m c : Nat) (news : List Value) (hs : a.eval s = v) (hx : a.eval x = .slice ao m c) (hown : w.ownsRow base e size v n xs) (hnone : ao = none → m = 0 ∧ c = 0)
    (hm : news.length = m * size) (hc : ∀ ad, ao = some ad → ∀ j u, news[j]? = some u → w.cell? (ad.add j) = some u) (h1 : ∀ u ∈ news, u.oneCell' = true) (hb : n + m ≤ 1099511627776) (hbase : base ≤ w.heap.size)
    (hK : ∀ v' w', w'.ownsRow base e size v' (n + m) (xs ++ news) → Below base w w' → wpList P ops Q rest (a.put o.dst v') w') :
    wpList P ops Q (o :: rest) a w := by
  cases ao with
  | some ad =>
    refine wpList_append_own _ hgd s x t ho base e i z size bytes ht hi hz hsize hby hzs hsz v n xs hs hown ad m c news hx hm (hc ad rfl) h1 (by unfold maxLen; omega) ?_ hbase ?_
    · calc (n + m) * bytes ≤ 1099511627776 * 128 := Nat.mul_le_mul hb hbs
        _ ≤ 140737488355328 := by decide
    · intro v' w' h2 h3 _
      exact hK v' w' h2 (own_below hown h3 hbase)
  | none =>
    obtain ⟨rfl, rfl⟩ := hnone rfl
    have hnews : news = [] := List.eq_nil_of_length_eq_zero (by simpa using hm)
    subst hnews
    refine wpList_plain hgd fun K hK' => ?_
    have hrun := run_append_owned_none (P := P) w base t o.type e i size ht hi _ n xs hown
    unfold Oper.wp
    simp [execOp, ho, resolve, invoke, builtin, hs, hx, hrun, Result.andThen]
    exact hK' _ _ (by simpa using hK v w (by simpa using hown) (Below.refl _ _))
/-- A slice of slices of inodes. -/
def PartsN (w : World) (v : Value) (ps : List (List Nd)) : Prop :=
  ∃ a cap, v = .slice a ps.length cap ∧ (0 < ps.length → ∃ b off, a = some ⟨b, off, none⟩ ∧ b < w.heap.size ∧ ∀ i (h : i < ps.length), ∃ x, w.cell? ⟨b, off + i, none⟩ = some x ∧ Nds w x ps[i])
theorem flatP_take (ps : List (List Nd)) (k : Nat) (h : k < ps.length) : (ps.take (k + 1)).flatten = (ps.take k).flatten ++ ps[k] := by
  rw [List.take_succ_eq_append_getElem h, List.flatten_append]; simp
def flatK (ps : List (List Nd)) (k : Nat) : Nat := (ps.take k).flatten.length
theorem flatK_next {ps : List (List Nd)} {k : Nat} (h : k < ps.length) : flatK ps (k + 1) = flatK ps k + ps[k].length := by
  unfold flatK; rw [flatP_take ps k h, List.length_append]
theorem flatK_le (ps : List (List Nd)) (k : Nat) : flatK ps k ≤ ps.flatten.length := by
  unfold flatK; conv => rhs; rw [← List.take_append_drop k ps, List.flatten_append, List.length_append]
  omega
theorem flatK_end (ps : List (List Nd)) : flatK ps ps.length = ps.flatten.length := by unfold flatK; rw [List.take_length]
set_option maxRecDepth 100000 in
set_option maxHeartbeats 2000000 in
theorem GrowN_any (n : Nat) (hn : n ≤ 1000000) (w : World) :
    Calls Tryz.prog 150 #[.slice none 0 0, .int .i64 n] w fun e w' => ∃ v, e = .returned v ∧ w'.ownsRow w.heap.size 49 6 v 0 [] ∧ Below w.heap.size w w' := by
  by_cases h0 : n = 0
  · subst h0
    go_enter Tryz.func150, Tryz.ntmps150
    go_wp2
    go_ret
    exact ⟨_, rfl, World.ownsRow_nil _ _ _ _, Below.refl _ _⟩
  · obtain ⟨i0, hi, hz0, hz1, hz2⟩ := info_parts infoN
    have hpos : (0 : Int) < (n : Int) := by omega
    have hrz : ∀ ty, (Builtin.append_ #[26, 3] ty #[.slice none 0 0, .int .i64 (n : Int)]).run Tryz.prog w =
        .ok (.slice (some ⟨w.heap.size, 0, none⟩) n (grownCap w n 0 49)) (w.drew.alloc (.cells (#[] ++ Builtin.zeroCells (Value.agg #[.int .i64 0, .int .i64 0, .int .i64 0, .string ⟨#[]⟩, .int .i64 0, .slice none 0 0]).cells n ++ Builtin.zeroCells (Value.agg #[.int .i64 0, .int .i64 0, .int .i64 0, .string ⟨#[]⟩, .int .i64 0, .slice none 0 0]).cells (grownCap w n 0 49 - n)) 49)) := fun ty => by
      have h := Lib.run_append_grow_zeros (P := Tryz.prog) w 26 3 ty 49 i0 _ .i64 .i64 Tryz.underlying26 Tryz.underlying3 hi hz0 none 0 0 [] (run_firstCells_none w.drew i0.size 0 0 0) n (by omega) (by rw [hz1]; decide) (by omega) (by omega)
        (by rw [hz2]; omega) (growslice_fits (by omega) (by rw [hz2]; omega))
      simpa using h
    have hGn : n ≤ grownCap w n 0 49 := grownCap_ge w _ _ _
    have hGm := grownCap_le_maxLen w n 0 49 (by unfold maxLen; omega)
    generalize grownCap w n 0 49 = G at hrz hGn hGm
    generalize hC : (#[] ++ Builtin.zeroCells (Value.agg #[.int .i64 0, .int .i64 0, .int .i64 0, .string ⟨#[]⟩, .int .i64 0, .slice none 0 0]).cells n ++ Builtin.zeroCells (Value.agg #[.int .i64 0, .int .i64 0, .int .i64 0, .string ⟨#[]⟩, .int .i64 0, .slice none 0 0]).cells (G - n)) = C at hrz
    have hCs : C.size = G * 6 := by
      have e6 : (Value.agg #[.int .i64 0, .int .i64 0, .int .i64 0, .string ⟨#[]⟩, .int .i64 0, .slice none 0 0]).cells.size = 6 := rfl
      rw [← hC, Array.size_append, Array.size_append, size_zeroCells, size_zeroCells, e6]
      simp; omega
    clear hC
    have hG63 : G ≤ 9223372036854775807 := by unfold maxLen at hGm; omega
    go_enter Tryz.func150, Tryz.ntmps150
    go_wp2_with (at_builtin; refine Lib.wpList_append_run _ rfl _ _ _ _ rfl _ _ rfl rfl _ _ (hrz _) ?_)
    all_goals (go_ret; exact ⟨_, rfl, World.ownsRow_made w.drew C G (Nat.le_refl _) hGm hCs, (Below.refl _ w).drew.alloc (Nat.le_refl _) _⟩)
/-- What is new: an owned row of inodes. -/
def NewNds (w : World) (L : List Nd) (v : Value) (w' : World) : Prop := w'.ownsRow w.heap.size 49 6 v L.length (ndsV L) ∧ Below w.heap.size w w'
set_option maxHeartbeats 4000000 in
theorem ConcatN_any (ps : List (List Nd)) (v : Value) (w : World) (hv : PartsN w v ps) (hp : ps.length ≤ 1000000) (hn : ps.flatten.length ≤ 1000000) :
    Calls Tryz.prog 138 #[v] w fun e w' => ∃ x, e = .returned x ∧ NewNds w ps.flatten x w' := by
  obtain ⟨a, ca, rfl, HA0⟩ := hv
  have HA := Lib.hid HA0
  clear HA0
  obtain ⟨i0, hi, hz0, hz1, hz2⟩ := info_parts infoN
  have hle := flatK_le ps
  have hend := flatK_end ps
  generalize hF : ps.flatten = F at *
  have HF := Lib.hid hF
  clear hF
  go_enter Tryz.func138, Tryz.ntmps138
  go_wp2
  go_loop [3, 11] (fun s3 s11 => ∃ k : Nat, k ≤ ps.length ∧ s11 = .int .i64 k ∧ s3 = .int .i64 (flatK ps k)) (fun _ s11 => ps.length - (intOf s11).toNat)
  case atStart => exact ⟨0, Nat.zero_le _, rfl, rfl⟩
  case round =>
    obtain ⟨k, hk, rfl, rfl⟩ := hrel
    by_cases hlt : k < ps.length
    · obtain ⟨b, o, rfl, hb, hcl⟩ := HA.out (by omega)
      obtain ⟨x, c1, ⟨ax, cx, rfl, hx1, hx2, hx3⟩⟩ := hcl k hlt
      clear hcl hx3 hx1 hx2
      have hf1 := hle (k + 1)
      have HN := Lib.hid (flatK_next hlt)
      have hfl : flatK ps k + ps[k].length ≤ 1000000 := by rw [HN.out] at hf1; omega
      have hng : ¬ ((flatK ps k : Int) + (ps[k].length : Int) < 0) := by omega
      go_wp2
      go_round
      case rel => exact ⟨k + 1, by omega, by go_num, by rw [HN.out]; go_num⟩
      case measure => simp [intOf]; omega
    · obtain rfl : k = ps.length := by omega
      rw [hend]
      go_wp2_with fail; refine (GrowN_any F.length hn _).mono ?_; rintro e w1 ⟨vg, rfl, hown, hb1⟩
      have HO := Lib.hid hown
      clear hown
      go_wp2
      go_loopw [6, 27] (fun s6 s27 wr => ∃ k : Nat, k ≤ ps.length ∧ s27 = .int .i64 k ∧ Below w.heap.size w wr ∧ Aside (wr.ownsRow w.heap.size 49 6 s6 (flatK ps k) (ndsV (ps.take k).flatten))) (fun _ s27 _ => ps.length - (intOf s27).toNat)
      case atStart => exact ⟨0, Nat.zero_le _, rfl, hb1, by (show World.ownsRow _ _ _ _ _ _ _); simpa [flatK, ndsV] using HO.out⟩
      case round =>
        clear HO hb1
        obtain ⟨k, hk, rfl, hbw, HO⟩ := hrel
        by_cases hlt : k < ps.length
        · obtain ⟨b, o, rfl, hb, hcl⟩ := HA.out (by omega)
          obtain ⟨x, c0, hx⟩ := hcl k hlt
          have c1 : wr.cell? ⟨b, o + k, none⟩ = some x := (hbw.cell (p := ⟨b, o + k, none⟩) hb).trans c0
          clear hcl c0
          have hxs := hx.below hbw
          obtain ⟨ax, cx, rfl, hx1, hx2, hx4, hx0, hx3⟩ := id hx
          clear hx3 hx1 hx2 hx4 hx
          have hf1 := hle (k + 1)
          have HN := Lib.hid (flatK_next hlt)
          have hfl : flatK ps k + ps[k].length ≤ F.length := by rw [HN.out] at hf1; omega
          have HFT := Lib.hid (flatP_take ps k hlt)
          have HX0 : Hid (ax = none → ps[k].length = 0 ∧ cx = 0) := by
            intro h
            refine ⟨?_, hx0 h⟩
            obtain ⟨_, _, e, hc1, _⟩ := hxs
            simp only [Value.slice.injEq] at e
            obtain ⟨rfl, _, rfl⟩ := e
            have := hx0 h
            omega
          have HXS := Lib.hid hxs
          have hsz := hbw.size
          clear hxs hx0
          go_wp2_with (at_builtin; refine wpList_append_any rfl (.tmp 31) (.tmp 32) 26 49 rfl Tryz.underlying26 hi hz0 hz1 hz2 rfl (by decide) (by decide) w.heap.size ax ps[k].length cx (ndsV ps[k]) rfl rfl HO.out HX0.out (ndsV_len _) HXS.out.src (ndsV_one HXS.out.all) (by omega) hsz ?_; intro v2 w2 hown2 hb2)
          have HO2 : Hid (w2.ownsRow w.heap.size 49 6 v2 (flatK ps (k + 1)) (ndsV (ps.take (k + 1)).flatten)) := by
            (show World.ownsRow _ _ _ _ _ _ _); rw [HN.out, HFT.out, ndsV_append]; exact hown2
          have hb3 := hbw.trans hb2
          clear hown2 hb2
          go_roundw
          case rel => exact ⟨k + 1, by omega, by go_num, hb3, HO2.out⟩
          case measure => simp [intOf]; omega
        · obtain rfl : k = ps.length := by omega
          have h1 := HO.out
          rw [hend, List.take_length, HF.out] at h1
          have HBF := Lib.hid h1
          clear h1
          clear HO
          go_wp2
          go_ret
          exact ⟨_, rfl, HBF.out, hbw⟩
end Go.Proofs.YtkdmfeikikmiiaaGreat
