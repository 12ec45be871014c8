/- Texts put together: Name12, Pure11, Pure12, Shelf, WalkA05, WalkB05, WalkC05, WalkD05. -/
import Derived.Test.YtdgedcfenpmaoaaGreatQMDrop12
import Derived.Shelf.Strings.Builder1
import Derived.Shelf.Small.Utf8
import Derived.Shelf.Small.Strs
import Derived.Shelf.Small.Wraps
import Derived.Shelf.Strings.BuilderF
import Derived.Shelf.Strings.BuilderK
import Derived.Shelf.LaysM
import Derived.Shelf.Strconv.Clone
import Derived.Shelf.Strings.Search1
import Derived.Shelf.Strings.Search2
import Derived.Shelf.Strings.Cut
import Derived.Shelf.Strings.Shaped
import Derived.Shelf.Strings.Prefix
import Derived.Shelf.Strings.Runes
import Derived.Shelf.Strings.IndexAny
import Derived.Shelf.Strings.AsciiSet
import Derived.Shelf.Strings.IndexAnyAll
import Derived.Shelf.Strings.BuilderCap
import Derived.Ground.Names2Prog
import Derived.Shelf.Slices.SearchI
import Derived.Test.YtdgedcfenpmaoaaGreatProg
import Derived.Test.YtdgedcfenpmaoaaGreatChecked
import Derived.Deep.LoopGhost
import Derived.Lib.Small
import Derived.OwnWalk
import Derived.Lib.AppendZerosOnto
import Derived.Lib.SliceRun
import Derived.Lib.Walk
import Derived.Deep.RegionWith
import Derived.Maps.AppendAt
import Derived.Deep.Cut
import Derived.Deep.CutRange
set_option linter.unusedVariables false
set_option linter.unusedSimpArgs false
/- One name more for what is no directory: the file system stays sound; taken away again, it is as it was. No program's function. -/
set_option linter.unusedVariables false
set_option linter.unusedSimpArgs false
namespace Go.Proofs.YtdgedcfenpmaoaaGreat

/-- Rising tables whose inodes are alike, number by number, are alike. -/
theorem key_ext_rise : ∀ {a b : List Nd}, riseP a → riseP b → (∀ k, hasN a k = hasN b k) → (∀ k, hasN a k = true → (getN a k).key = (getN b k).key) → a.map Nd.key = b.map Nd.key
  | [], [], _, _, _, _ => rfl
  | [], y :: b, _, _, h, _ => by have := h y.ino; simp [hasN] at this
  | x :: a, [], _, _, h, _ => by have := h x.ino; simp [hasN] at this
  | x :: a, y :: b, ha, hb, h, hk => by
    obtain ⟨ha1, ha2⟩ := List.pairwise_cons.1 ha
    obtain ⟨hb1, hb2⟩ := List.pairwise_cons.1 hb
    have hc : ∀ {z : Nd} {l : List Nd} {k : Int}, hasN (z :: l) k = (z.ino == k || hasN l k) := by intro z l k; simp [hasN]
    have e : x.ino = y.ino := by
      have h1 := h x.ino
      have h2 := h y.ino
      rw [hc, hc] at h1 h2
      simp only [beq_self_eq_true, Bool.true_or, Bool.or_true] at h1 h2
      rcases Int.lt_trichotomy x.ino y.ino with hlt | heq | hgt
      · have hb3 : hasN b x.ino = true := by
          have : (y.ino == x.ino) = false := by simp; omega
          rw [this, Bool.false_or] at h1; exact h1.symm
        obtain ⟨z, hz, hz2⟩ := has_iff.1 hb3
        have := hb1 z hz; omega
      · exact heq
      · have ha3 : hasN a y.ino = true := by
          have : (x.ino == y.ino) = false := by simp; omega
          rw [this, Bool.false_or] at h2; exact h2
        obtain ⟨z, hz, hz2⟩ := has_iff.1 ha3
        have := ha1 z hz; omega
    have hg : ∀ {z : Nd} {l : List Nd} {k : Int}, getN (z :: l) k = if z.ino = k then z else getN l k := by
      intro z l k
      unfold getN
      by_cases hz : z.ino = k
      · rw [List.find?_cons_of_pos (by simpa using hz), if_pos hz]; rfl
      · rw [List.find?_cons_of_neg (by simpa using hz), if_neg hz]
    have hxy : x.key = y.key := by
      have := hk x.ino (by rw [hc]; simp)
      rwa [hg, hg, if_pos rfl, if_pos e.symm] at this
    rw [List.map_cons, List.map_cons, hxy]
    congr 1
    have hax : ∀ k, hasN a k = true → k ≠ x.ino := by
      rintro k h3 rfl
      obtain ⟨z, hz, hz2⟩ := has_iff.1 h3
      have := ha1 z hz; omega
    have hbx : ∀ k, hasN b k = true → k ≠ y.ino := by
      rintro k h3 rfl
      obtain ⟨z, hz, hz2⟩ := has_iff.1 h3
      have := hb1 z hz; omega
    refine key_ext_rise ha2 hb2 (fun k => ?_) (fun k h3 => ?_)
    · refine bool_eq ⟨fun h3 => ?_, fun h3 => ?_⟩
      · have h4 := h k
        rw [hc, hc, h3, Bool.or_true] at h4
        have : (y.ino == k) = false := by have := hax k h3; simp; omega
        rw [this, Bool.false_or] at h4; exact h4.symm
      · have h4 := h k
        rw [hc, hc, h3, Bool.or_true] at h4
        have : (x.ino == k) = false := by have := hbx k h3; simp; omega
        rw [this, Bool.false_or] at h4; exact h4
    · have h4 := hk k (by rw [hc, h3, Bool.or_true])
      have := hax k h3
      rwa [hg, hg, if_neg (fun e2 => this e2.symm), if_neg (by omega)] at h4

def naL (l : List Nd) (d : Int) (n : List UInt8) (i : Int) (ev : Go.Value) : List Nd := setN (setN l (moreD (getN l d) n i ev)) (linkX (getN l i) ((getN l i).links + 1))
structure Given (l : List Nd) (d : Int) (n : List UInt8) (i : Int) : Prop where
  dir : isDir l d = true
  gone : hasB (getN l d).ents n = false
  may : mayB n = true
  has : hasN l i = true
  leaf : (getN l i).kind ≠ 2
section
variable {mi mb nx : Int} {l : List Nd} {d : Int} {n : List UInt8} {i : Int} {ev : Go.Value}
theorem leaf_bare (h : SoundP mi mb nx l) {i : Int} (hi : hasN l i = true) (hk : (getN l i).kind ≠ 2) : (getN l i).ents = [] := h.tree.files _ (get_mem hi).1 hk
theorem given_ne (hg : Given l d n i) : i ≠ d := by
  intro e
  have := hg.leaf
  rw [e] at this
  exact this (dir_parts hg.dir).2
theorem na_rise (h : SoundP mi mb nx l) : riseP (naL l d n i ev) := set_rise _ (set_rise _ h.rise)
theorem na_get (h : SoundP mi mb nx l) (hg : Given l d n i) (k : Int) : getN (naL l d n i ev) k = if k = i then linkX (getN l i) ((getN l i).links + 1) else if k = d then moreD (getN l d) n i ev else getN l k := by
  have hd := (dir_parts hg.dir).1
  unfold naL
  rw [get_set (set_rise _ h.rise), get_set h.rise, more_ino l hd, link_ino hg.has]
theorem na_has (h : SoundP mi mb nx l) (hg : Given l d n i) (k : Int) : hasN (naL l d n i ev) k = hasN l k := by
  have hd := (dir_parts hg.dir).1
  unfold naL
  rw [has_set, has_set, more_ino l hd, link_ino hg.has]
  by_cases hk : k = i
  · rw [hk, hg.has]; simp
  · rw [decide_eq_false hk, Bool.false_or]
    by_cases hkd : k = d
    · rw [hkd, hd]; simp
    · rw [decide_eq_false hkd, Bool.false_or]
theorem na_names (h : SoundP mi mb nx l) (hg : Given l d n i) (j : Int) : namesN (naL l d n i ev) j = namesN l j + if i = j then 1 else 0 := by
  have hd := (dir_parts hg.dir).1
  have h2 := names_set h.rise (moreD (getN l d) n i ev) j
  rw [more_ino l hd, more_cnt (dir_sort h d) hg.gone] at h2
  have h5 : getN (setN l (moreD (getN l d) n i ev)) i = getN l i := by rw [get_set h.rise, more_ino l hd, if_neg (given_ne hg)]
  have h1 := names_set (set_rise (moreD (getN l d) n i ev) h.rise) (linkX (getN l i) ((getN l i).links + 1)) j
  rw [link_ino hg.has, h5, show cntE j (linkX (getN l i) ((getN l i).links + 1)) = cntE j (getN l i) from rfl] at h1
  unfold naL
  omega
theorem na_mem (h : SoundP mi mb nx l) (hg : Given l d n i) {y : Nd} (hy : y ∈ naL l d n i ev) : y = linkX (getN l i) ((getN l i).links + 1) ∨ y = moreD (getN l d) n i ev ∨ (y ∈ l ∧ y.ino ≠ d ∧ y.ino ≠ i) := by
  have hd := (dir_parts hg.dir).1
  unfold naL at hy
  rcases mem_set.1 hy with e | ⟨hy, h1⟩
  · exact .inl e
  · rw [link_ino hg.has] at h1
    rcases mem_set.1 hy with e | ⟨hy, h2⟩
    · exact .inr (.inl e)
    · rw [more_ino l hd] at h2; exact .inr (.inr ⟨hy, h2, h1⟩)
theorem na_keep (h : SoundP mi mb nx l) (hg : Given l d n i) {k : Int} {e : Ent} (he : e ∈ (getN l k).ents) : e ∈ (getN (naL l d n i ev) k).ents := by
  rw [na_get h hg]
  split
  · rename_i e2
    rw [e2] at he
    exact he
  split
  · rename_i e2
    rw [e2] at he
    refine mem_with.2 (.inr ⟨he, fun e3 => ?_⟩)
    have := hg.gone
    unfold hasB at this
    rw [List.any_eq_false] at this
    exact this e he (by simpa using e3)
  · exact he
theorem na_reach (h : SoundP mi mb nx l) (hg : Given l d n i) {k : Int} (hk : Reach l k) : Reach (naL l d n i ev) k := by
  induction hk with
  | root => exact .root
  | step _ he ih => exact .step ih (na_keep h hg he)
theorem na_ents (h : SoundP mi mb nx l) (hg : Given l d n i) : entsN (naL l d n i ev) = entsN l + 1 := by
  have hd := (dir_parts hg.dir).1
  have a2 := ents_set h.rise (moreD (getN l d) n i ev)
  rw [more_ino l hd] at a2
  have a3 : (moreD (getN l d) n i ev).ents.length = (getN l d).ents.length + 1 := by
    have := (with_perm (getN l d).ents n i).length_eq
    rw [without_none (dir_sort h d) hg.gone] at this
    exact this
  have h5 : getN (setN l (moreD (getN l d) n i ev)) i = getN l i := by rw [get_set h.rise, more_ino l hd, if_neg (given_ne hg)]
  have a1 := ents_set (set_rise (moreD (getN l d) n i ev) h.rise) (linkX (getN l i) ((getN l i).links + 1))
  rw [link_ino hg.has, h5, show (linkX (getN l i) ((getN l i).links + 1)).ents.length = (getN l i).ents.length from rfl] at a1
  unfold naL
  omega
theorem na_one (h : SoundP mi mb nx l) (hg : Given l d n i) : i ≠ 1 := by
  intro e
  have := hg.leaf
  rw [e] at this
  exact this h.rootDir
theorem na_sound (h : SoundP mi mb nx l) (hg : Given l d n i) : SoundP mi mb nx (naL l d n i ev) := by
  obtain ⟨hd, hk⟩ := dir_parts hg.dir
  have hi := hg.has
  have hne := given_ne hg
  have hi1 := na_one h hg
  have hdm := get_mem hd
  have him := get_mem hi
  have hnm := fun j => na_names (ev := ev) h hg j
  have hget := fun k => na_get (ev := ev) h hg k
  have hhas := fun k => na_has (ev := ev) h hg k
  have hnmo : ∀ j, j ≠ i → namesN (naL l d n i ev) j = namesN l j := fun j hj => by rw [hnm, if_neg (fun e => hj e.symm)]; omega
  have hdi : ¬ (getN l d).ino = i := by rw [hdm.2]; exact fun e => hne e.symm
  have hposi : 0 < i := by have := (h.ino _ him.1).1; rw [him.2] at this; omega
  refine ⟨h.lim, ?_, na_rise h, by rw [hhas]; exact h.root, ?_, ?_, ?_, ?_, by rw [hnmo 1 (fun e => hi1 e.symm)]; exact h.noRoot, ?_, ?_, ?_, ?_, ?_⟩
  · intro y hy
    rcases na_mem h hg hy with rfl | rfl | hy
    · exact h.ino (getN l i) him.1
    · exact h.ino (getN l d) hdm.1
    · exact h.ino _ hy.1
  · rw [hget, if_neg (fun e => hi1 e.symm)]
    split
    · exact hk
    · exact h.rootDir
  · intro y hy
    rcases na_mem h hg hy with rfl | rfl | hy
    · exact h.kind (getN l i) him.1
    · have := h.kind _ hdm.1
      unfold secondX at this ⊢
      rw [if_pos hk, Bool.and_eq_true] at this
      rw [if_pos (show (moreD (getN l d) n i ev).kind = 2 from hk), Bool.and_eq_true]
      exact ⟨this.1, (rightB_iff _).2 (with_right ((rightB_iff _).1 this.2) (by unfold goodE; rw [hg.may, decide_eq_true hposi]; rfl))⟩
    · exact h.kind y hy.1
  · intro y hy e he
    rw [hhas]
    rcases na_mem h hg hy with rfl | rfl | hy
    · exact h.there _ him.1 e he
    · rcases mem_with.1 he with rfl | he
      · exact hi
      · exact h.there _ hdm.1 e he.1
    · exact h.there _ hy.1 e he
  · intro y hy
    rcases na_mem h hg hy with rfl | rfl | hy
    · have := h.links _ him.1
      show (getN l i).links + 1 = (namesN _ (getN l i).ino : Int)
      rw [him.2] at this ⊢
      rw [hnm, if_pos rfl, this]; omega
    · show (getN l d).links = (namesN _ (getN l d).ino : Int)
      rw [hnmo _ hdi]; exact h.links _ hdm.1
    · rw [hnmo _ hy.2.2]; exact h.links _ hy.1
  · rw [hget, if_neg (fun e => hi1 e.symm)]
    split
    · rename_i e
      show (getN l d).parent = 1
      rw [← e]; exact h.rootPar
    · exact h.rootPar
  · intro y hy hy1
    rcases na_mem h hg hy with rfl | rfl | hy
    · show 1 ≤ namesN _ (getN l i).ino
      rw [him.2, hnm, if_pos rfl]; omega
    · show 1 ≤ namesN _ (getN l d).ino
      rw [hnmo _ hdi]; exact h.named _ hdm.1 hy1
    · rw [hnmo _ hy.2.2]; exact h.named _ hy.1 hy1
  · intro y hy hky hy1
    rcases na_mem h hg hy with rfl | rfl | hy
    · exact absurd hky hg.leaf
    · obtain ⟨h7, m, hm⟩ := h.once _ hdm.1 hk hy1
      show namesN _ (getN l d).ino = 1 ∧ ∃ m, (m, (getN l d).ino) ∈ (getN _ (getN l d).parent).ents
      rw [hnmo _ hdi]
      exact ⟨h7, m, na_keep h hg hm⟩
    · obtain ⟨h7, m, hm⟩ := h.once _ hy.1 hky hy1
      rw [hnmo _ hy.2.2]
      exact ⟨h7, m, na_keep h hg hm⟩
  · intro y hy
    rcases na_mem h hg hy with rfl | rfl | hy
    · exact na_reach h hg (h.reach (getN l i) him.1)
    · exact na_reach h hg (h.reach (getN l d) hdm.1)
    · exact na_reach h hg (h.reach _ hy.1)
  · have a1 : (naL l d n i ev).length = l.length := by
      unfold naL
      rw [len_set_has (set_rise _ h.rise), len_set_has h.rise]
      · rw [more_ino l hd]; exact hd
      · rw [has_set, link_ino hi, hi]; simp
    have a2 : bytesN (naL l d n i ev) = bytesN l := by
      have b2 := bytes_set h.rise (moreD (getN l d) n i ev)
      rw [more_ino l hd] at b2
      have h5 : getN (setN l (moreD (getN l d) n i ev)) i = getN l i := by rw [get_set h.rise, more_ino l hd, if_neg hne]
      have b1 := bytes_set (set_rise (moreD (getN l d) n i ev) h.rise) (linkX (getN l i) ((getN l i).links + 1))
      rw [link_ino hi, h5, show costN (linkX (getN l i) ((getN l i).links + 1)) = costN (getN l i) from rfl] at b1
      have b3 : costN (moreD (getN l d) n i ev) = costN (getN l d) := rfl
      unfold naL
      omega
    have := h.fits
    unfold fitsB at this ⊢
    rw [a1, a2]; exact this
theorem na_list (h : SoundP mi mb nx l) (hg : Given l d n i) : (listN (naL l d n i ev)).length = (listN l).length + 1 := by
  rw [list_exact h.tree, list_exact (na_sound (ev := ev) h hg).tree, na_ents h hg]; omega
theorem grown_na (h : SoundP mi mb nx l) (hg : Given l d n i) : Grown l (naL l d n i ev) d n i := by
  have hne := given_ne hg
  refine ⟨hg.gone, fun {k} hk => ?_, fun {k} hk => by rw [na_has h hg]; exact hk, fun {k} hk m hm => ?_, ?_⟩
  · rw [na_get h hg]
    split
    · rename_i e; subst e; exact ⟨rfl, rfl, rfl, rfl⟩
    split
    · rename_i e; subst e; exact ⟨rfl, rfl, rfl, rfl⟩
    · exact ⟨rfl, rfl, rfl, rfl⟩
  · rw [na_get h hg]
    split
    · rename_i e; subst e; exact ⟨rfl, rfl⟩
    split
    · rename_i e
      subst e
      have := num_with (dir_sort h k) n i m
      have hmn : m ≠ n := fun e => hm ⟨rfl, e⟩
      rw [if_neg hmn, decide_eq_false hmn, Bool.false_or] at this
      exact this
    · exact ⟨rfl, rfl⟩
  · rw [na_get h hg, if_neg (fun e => hne e.symm), if_pos rfl]
    have := num_with (dir_sort h d) n i n
    rw [if_pos rfl] at this
    exact ⟨this.1, by rw [show (moreD (getN l d) n i ev).ents = withB (getN l d).ents n i from rfl, this.2]; simp⟩
theorem without_with {es : List Ent} {n : List UInt8} {i : Int} (hs : sortP es) (h : hasB es n = false) : withoutB (withB es n i) n = es := by
  have hw := with_sort n i hs
  rw [← without_eq n hw]
  unfold withB
  rw [List.filter_append, List.filter_cons_of_neg (by simp)]
  conv => rhs; rw [← without_none hs h]
  unfold withoutB
  rw [filter_all fun e he => by simpa [bne] using lt_ne (List.mem_filter.1 he).2, filter_all fun e he => by simpa [bne] using (lt_ne (List.mem_filter.1 he).2).symm]
/-- A name that was given, taken away again. -/
theorem na_back (h : SoundP mi mb nx l) (hg : Given l d n i) (e2 : Go.Value) : Gone (naL l d n i ev) d n i ∧ (unL (naL l d n i ev) d n i e2).map Nd.key = l.map Nd.key := by
  have hd := (dir_parts hg.dir).1
  have hi := hg.has
  have hne := given_ne hg
  have hs := na_sound (ev := ev) h hg
  have hgi : getN (naL l d n i ev) i = linkX (getN l i) ((getN l i).links + 1) := by rw [na_get h hg, if_pos rfl]
  have hgd : getN (naL l d n i ev) d = moreD (getN l d) n i ev := by rw [na_get h hg, if_neg (fun e => hne e.symm), if_pos rfl]
  have hgone : Gone (naL l d n i ev) d n i := ⟨by rw [hgd]; exact mem_with.2 (.inl rfl), by rw [hgi]; exact leaf_bare h hi hg.leaf⟩
  refine ⟨hgone, ?_⟩
  have hli : 1 ≤ (getN l i).links := by
    have := h.links _ (get_mem hi).1
    have h2 := h.named _ (get_mem hi).1 (by rw [(get_mem hi).2]; exact na_one h hg)
    omega
  have hl0 : ¬ (getN (naL l d n i ev) i).links - 1 = 0 := by
    rw [hgi]
    show ¬ (getN l i).links + 1 - 1 = 0
    omega
  refine key_ext_rise (un_rise hs) h.rise (fun k => ?_) (fun k hk => ?_)
  · rw [un_has hs hgone, na_has h hg]
    split
    · rename_i e
      rw [e, hi, decide_eq_true hl0]
    · rfl
  · rw [un_get hs hgone]
    by_cases hki : k = i
    · rw [if_pos hki, if_neg hl0, hgi, hki]
      unfold linkX Nd.key
      simp
    · rw [if_neg hki]
      by_cases hkd : k = d
      · rw [if_pos hkd, hgd, hkd]
        unfold lessD moreD Nd.key
        simp only
        rw [without_with (dir_sort h d) hg.gone]
      · rw [if_neg hkd, na_get h hg, if_neg hki, if_neg hkd]
end
end Go.Proofs.YtdgedcfenpmaoaaGreat

/- What is made, as lists. No program's function. -/
set_option linter.unusedVariables false
set_option linter.unusedSimpArgs false
namespace Go.Proofs.YtdgedcfenpmaoaaGreat

def leafX (nx k : Int) (data : List UInt8) (d : Int) : Nd := ⟨nx, k, 1, data, if k = 2 then d else 0, .slice none 0 0, []⟩
def sizeK (k : Int) (data : List UInt8) : Int := if k = 1 then (data.length : Int) else 0
def newF (mi mb nx : Int) (l : List Nd) (s : Sp) (k : Int) (data : List UInt8) (ev : Go.Value) : (Int × List Nd) × Int :=
  if mayB s.name = false then ((nx, l), 9) else if fitsB mi mb l 1 (sizeK k data) = false then ((nx, l), 8)
  else ((nx + 1, newL l s.dir s.name ev (leafX nx k data s.dir)), 0)
theorem newF_may {mi mb nx : Int} {l : List Nd} {s : Sp} {k : Int} {data : List UInt8} {ev : Go.Value} (h : mayB s.name = false) : newF mi mb nx l s k data ev = ((nx, l), 9) := by unfold newF; rw [if_pos h]
theorem newF_full {mi mb nx : Int} {l : List Nd} {s : Sp} {k : Int} {data : List UInt8} {ev : Go.Value} (h : mayB s.name = true) (h2 : fitsB mi mb l 1 (sizeK k data) = false) : newF mi mb nx l s k data ev = ((nx, l), 8) := by unfold newF; rw [if_neg (by simp [h]), if_pos h2]
theorem newF_ok {mi mb nx : Int} {l : List Nd} {s : Sp} {k : Int} {data : List UInt8} {ev : Go.Value} (h : mayB s.name = true) (h2 : fitsB mi mb l 1 (sizeK k data) = true) : newF mi mb nx l s k data ev = ((nx + 1, newL l s.dir s.name ev (leafX nx k data s.dir)), 0) := by
  unfold newF; rw [if_neg (by simp [h]), if_neg (by simp [h2])]
def putF (mi mb nx : Int) (l : List Nd) (base p : List UInt8) (k : Int) (data : List UInt8) (refused : Int) (ev : Go.Value) : (Int × List Nd) × Int :=
  if (seekP l base p false).2 ≠ 0 then ((nx, l), (seekP l base p false).2)
  else if (seekP l base p false).1.ino ≠ 0 then ((nx, l), 2)
  else if refused ≠ 0 ∧ slashB p = true then ((nx, l), refused)
  else newF mi mb nx l (seekP l base p false).1 k data ev
def symF (mi mb nx : Int) (l : List Nd) (base target p : List UInt8) (ev : Go.Value) : (Int × List Nd) × Int :=
  if target = [] then ((nx, l), 1) else if 4095 < target.length then ((nx, l), 7)
  else if target.contains 0 = true then ((nx, l), 9) else putF mi mb nx l base p 3 target 1 ev
theorem setN_key2 {a b : List Nd} {x y : Nd} (h : a.map Nd.key = b.map Nd.key) (hx : x.key = y.key) : (setN a x).map Nd.key = (setN b y).map Nd.key := by
  have hi : x.ino = y.ino := (Prod.mk.inj hx).1
  have hf : ∀ (p : Int → Bool) (l : List Nd), (l.filter (fun e => p e.ino)).map Nd.key = (l.map Nd.key).filter (fun q => p q.1) := by
    intro p l
    rw [List.filter_map]; rfl
  unfold setN
  rw [List.map_append, List.map_append, List.map_cons, List.map_cons, hx, hi]
  unfold aheadN behindN
  rw [hf (fun i => decide (i < y.ino)), hf (fun i => decide (i < y.ino)), hf (fun i => decide (y.ino < i)), hf (fun i => decide (y.ino < i)), h]
theorem newL_key (l : List Nd) (d : Int) (n : List UInt8) (a b : Go.Value) (x : Nd) : (newL l d n a x).map Nd.key = (newL l d n b x).map Nd.key := setN_key2 (setN_key l rfl) rfl
theorem newF_key (mi mb nx : Int) (l : List Nd) (s : Sp) (k : Int) (data : List UInt8) (a b : Go.Value) : (newF mi mb nx l s k data a).2 = (newF mi mb nx l s k data b).2 ∧ (newF mi mb nx l s k data a).1.1 = (newF mi mb nx l s k data b).1.1 ∧ onesB (newF mi mb nx l s k data a).1.2 (newF mi mb nx l s k data b).1.2 = true := by
  unfold newF
  split
  · exact ⟨rfl, rfl, onesB_refl _⟩
  split
  · exact ⟨rfl, rfl, onesB_refl _⟩
  · exact ⟨rfl, rfl, decide_eq_true (newL_key l _ _ a b _)⟩
theorem putF_key (mi mb nx : Int) (l : List Nd) (base p : List UInt8) (k : Int) (data : List UInt8) (refused : Int) (a b : Go.Value) : (putF mi mb nx l base p k data refused a).2 = (putF mi mb nx l base p k data refused b).2 ∧ (putF mi mb nx l base p k data refused a).1.1 = (putF mi mb nx l base p k data refused b).1.1 ∧ onesB (putF mi mb nx l base p k data refused a).1.2 (putF mi mb nx l base p k data refused b).1.2 = true := by
  unfold putF
  split
  · exact ⟨rfl, rfl, onesB_refl _⟩
  split
  · exact ⟨rfl, rfl, onesB_refl _⟩
  split
  · exact ⟨rfl, rfl, onesB_refl _⟩
  · exact newF_key _ _ _ _ _ _ _ _ _
theorem symF_key (mi mb nx : Int) (l : List Nd) (base target p : List UInt8) (a b : Go.Value) : (symF mi mb nx l base target p a).2 = (symF mi mb nx l base target p b).2 ∧ (symF mi mb nx l base target p a).1.1 = (symF mi mb nx l base target p b).1.1 ∧ onesB (symF mi mb nx l base target p a).1.2 (symF mi mb nx l base target p b).1.2 = true := by
  unfold symF
  split
  · exact ⟨rfl, rfl, onesB_refl _⟩
  split
  · exact ⟨rfl, rfl, onesB_refl _⟩
  split
  · exact ⟨rfl, rfl, onesB_refl _⟩
  · exact putF_key _ _ _ _ _ _ _ _ _ _ _

/-- What is made in a sound file system. -/
theorem put_sound {mi mb nx : Int} {l : List Nd} (h : SoundP mi mb nx l) (hn : nx < 1099511627776) {base p data : List UInt8} {k refused : Int} {ev : Go.Value} (hk : k = 1 ∨ k = 2 ∨ k = 3) (hd : k = 2 → data = []) (hd3 : k = 3 → 1 ≤ data.length ∧ data.length ≤ 4095 ∧ data.all (fun c => c != 0) = true) (hrf : k ≠ 2 → refused ≠ 0)
    (h0 : (putF mi mb nx l base p k data refused ev).2 = 0) (hrn : refused ≠ 0 ∨ k = 2) :
    SoundP mi mb (putF mi mb nx l base p k data refused ev).1.1 (putF mi mb nx l base p k data refused ev).1.2 ∧
      (∃ d n, seekP (putF mi mb nx l base p k data refused ev).1.2 base p false = (⟨d, n, nx⟩, 0)) ∧
      getN (putF mi mb nx l base p k data refused ev).1.2 nx = leafX nx k data (seekP l base p false).1.dir ∧
      hasN (putF mi mb nx l base p k data refused ev).1.2 nx = true ∧
      (putF mi mb nx l base p k data refused ev).1.2.length = l.length + 1 ∧
      (listN l).Sublist (listN (putF mi mb nx l base p k data refused ev).1.2) ∧ (listN (putF mi mb nx l base p k data refused ev).1.2).length = (listN l).length + 1 := by
  have hsp := seek_spot h base p false
  unfold putF at h0 ⊢
  split at h0
  · rename_i h1; exact absurd h0 h1
  rename_i h1
  rw [if_neg h1]
  split at h0
  · cases h0
  rename_i h2
  rw [if_neg h2]
  split at h0
  · rename_i h3
    exact absurd h0 h3.1
  rename_i h3
  rw [if_neg h3]
  have h1' : (seekP l base p false).2 = 0 := by simpa using h1
  have h2' : (seekP l base p false).1.ino = 0 := by simpa using h2
  have hspot := hsp.1 h1'
  generalize hq : seekP l base p false = q at *
  obtain ⟨⟨qd, qn, qi⟩, qe⟩ := q
  dsimp only at h1' h2' hspot h0 ⊢
  subst h1' h2'
  unfold newF at h0 ⊢
  split at h0
  · cases h0
  rename_i h4
  rw [if_neg h4]
  split at h0
  · cases h0
  rename_i h5
  rw [if_neg h5]
  have h4' : mayB qn = true := by simpa using h4
  have h5' : fitsB mi mb l 1 (sizeK k data) = true := by simpa using h5
  have hqn : qn ≠ [] := (mayB_good h4').2
  obtain ⟨g1, g2, g3⟩ := hspot.entry hqn
  dsimp only at g1 g2 g3
  have hgone : hasB (getN l qd).ents qn = false := by rw [g3]; simp
  have hleaf : Leaf l nx qd qn (leafX nx k data qd) := by
    refine ⟨g1, hgone, h4', rfl, rfl, rfl, ?_, fun hk2 => ?_⟩
    · unfold secondX leafX
      rcases hk with rfl | rfl | rfl
      · rfl
      · rw [hd rfl]; rfl
      · obtain ⟨a1, a2, a3⟩ := hd3 rfl
        simp [a1, a2]
        simpa using a3
    · show (if k = 2 then qd else 0) = qd
      rw [if_pos (show k = 2 from hk2)]
  have hcost : (costN (leafX nx k data qd) : Int) = sizeK k data := by
    unfold sizeK
    by_cases h1 : k = 1
    · rw [if_pos h1]; rw [costN_yes (show (leafX nx k data qd).kind = 1 from h1)]; rfl
    · rw [if_neg h1]; rw [costN_no (show ¬ (leafX nx k data qd).kind = 1 from h1)]; rfl
  rw [← hcost] at h5'
  have hso := new_sound (ev := ev) h hleaf hn h5'
  have hG := grown_new (ev := ev) h hleaf
  have hgx : getN (newL l qd qn ev (leafX nx k data qd)) nx = leafX nx k data qd := by rw [new_get h hleaf, if_pos rfl]
  refine ⟨hso, ⟨qd, qn, seek_grown h hG ?_ hq⟩, hgx, by rw [new_has h hleaf]; simp, new_len h hleaf, list_new h hleaf hn h5'⟩
  rw [hgx]
  by_cases hk2 : k = 2
  · exact .inl hk2
  · right
    have hr := hrf hk2
    cases hsl : slashB p
    · rfl
    · exact absurd ⟨hr, hsl⟩ h3
end Go.Proofs.YtdgedcfenpmaoaaGreat

/- What is linked and what is taken away, as lists. No program's function. -/
set_option linter.unusedVariables false
set_option linter.unusedSimpArgs false
namespace Go.Proofs.YtdgedcfenpmaoaaGreat

def unlinkF (l : List Nd) (base p : List UInt8) (ev : Go.Value) : List Nd × Int :=
  if (seekP l base p false).2 ≠ 0 then (l, (seekP l base p false).2)
  else if (seekP l base p false).1.ino = 0 then (l, 1)
  else if (getN l (seekP l base p false).1.ino).kind = 2 then (l, 4)
  else (unL l (seekP l base p false).1.dir (seekP l base p false).1.name (seekP l base p false).1.ino ev, 0)
def rmdirF (l : List Nd) (base p : List UInt8) (ev : Go.Value) : List Nd × Int :=
  if (seekP l base p false).2 ≠ 0 then (l, (seekP l base p false).2)
  else if (seekP l base p false).1.ino = 0 then (l, 1)
  else if (getN l (seekP l base p false).1.ino).kind ≠ 2 then (l, 3)
  else if (getN l (seekP l base p false).1.ino).ino = 1 then (l, 10)
  else if (seekP l base p false).1.name = [] then (l, 9)
  else if (getN l (seekP l base p false).1.ino).ents.length > 0 then (l, 5)
  else (unL l (seekP l base p false).1.dir (seekP l base p false).1.name (seekP l base p false).1.ino ev, 0)
def linkF (l : List Nd) (base src dst : List UInt8) (ev : Go.Value) : List Nd × Int :=
  if (seekP l base src false).2 ≠ 0 then (l, (seekP l base src false).2)
  else if (seekP l base src false).1.ino = 0 then (l, 1)
  else if (getN l (seekP l base src false).1.ino).kind = 2 then (l, 11)
  else if (seekP l base dst false).2 ≠ 0 then (l, (seekP l base dst false).2)
  else if (seekP l base dst false).1.ino ≠ 0 then (l, 2)
  else if slashB dst = true then (l, 1)
  else if mayB (seekP l base dst false).1.name = false then (l, 9)
  else (naL l (seekP l base dst false).1.dir (seekP l base dst false).1.name (getN l (seekP l base src false).1.ino).ino ev, 0)
theorem sumN_le {f g : Nd → Nat} (h : ∀ x, f x ≤ g x) : ∀ l : List Nd, sumN f l ≤ sumN g l
  | [] => Nat.le_refl _
  | x :: l => by
    have := sumN_le h l
    have := h x
    unfold sumN at *
    simp only [List.map_cons, List.sum_cons]
    omega
theorem names_ents (l : List Nd) (j : Int) : namesN l j ≤ entsN l := by
  rw [names_cnt]
  exact sumN_le (fun x => by unfold cntE; exact Nat.le_trans List.count_le_length (by rw [List.length_map]; exact Nat.le_refl _)) l
/-- The numbers of links that a sound file system can hold. -/
theorem links_few {mi mb nx : Int} {l : List Nd} (h : okB mi mb nx l = true) (i : Int) : 0 ≤ (getN l i).links ∧ (getN l i).links ≤ 1600 := by
  have hs := ok_sound h
  have he := (few_ents (ok_parts h).1).1
  cases hh : hasN l i
  · rw [getN_none hh]; exact ⟨Int.le_refl _, by decide⟩
  · have h1 := hs.links _ (get_mem hh).1
    have h2 := names_ents l (getN l i).ino
    omega
end Go.Proofs.YtdgedcfenpmaoaaGreat

/-
  DERIVED: THE SHELF's CONTRACTS AT THIS DUMP, IN PLAIN WORDS (tools/lay-plain.mjs out of 'TryzShelf.lean', which tools/lay-shelf.mjs wrote): THE SAME DECLARATIONS UNDER THE SAME NAMES: 'import', 'namespace', 'open', 'def', 'theorem' AND NOTHING ELSE: no command of the shelf's: FOR A HAND-IN. Each laying: the table of numbers ('.._ren') and one theorem, a field a fact of the dump's own or the kernel's comparison; each contract: ONE APPLICATION.
-/
namespace Go.Proofs
open Go.Shelf
def Tryz.lays169_ren : Go.Shelf.Ren := ⟨fun | 169 => 127 | n => n, fun | 70 => 147 | 9 => 9 | 0 => 0 | 72 => 149 | 37 => 122 | 127 => 123 | 3 => 3 | 5 => 5 | n => n, fun | n => n⟩
theorem Tryz.lays169 : Go.Proofs.Lays.n169 Tryz.prog Tryz.lays169_ren := {
  mixed := by kernel_rfl
  f169 := Tryz.func127.trans (congrArg some (by kernel_rfl))
  t0 := Tryz.underlying0
  a0 := Tryz.isAgg0
  z0 := Tryz.sizeOf0
  v0 := Tryz.zeroValue0
  t3 := Tryz.underlying3
  a3 := Tryz.isAgg3
  z3 := Tryz.sizeOf3
  v3 := Tryz.zeroValue3
  t9 := Tryz.underlying9
  a9 := Tryz.isAgg9
  z9 := Tryz.sizeOf9
  v9 := Tryz.zeroValue9
  t37 := Tryz.underlying122
  a37 := Tryz.isAgg122
  z37 := Tryz.sizeOf122
  v37 := Tryz.zeroValue122
  t70 := Tryz.underlying147
  a70 := Tryz.isAgg147
  z70 := Tryz.sizeOf147
  v70 := Tryz.zeroValue147
  t72 := Tryz.underlying149
  a72 := Tryz.isAgg149
  z72 := Tryz.sizeOf149
  v72 := Tryz.zeroValue149
  t127 := Tryz.underlying123
  a127 := Tryz.isAgg123
  z127 := Tryz.sizeOf123
  v127 := Tryz.zeroValue123 }
theorem Tryz.Builder_Extra_169 : Builder.Extra Tryz.prog Tryz.lays169_ren := {
  sizeBuilder := by kernel_rfl
  liesBuilder := by kernel_rfl
  t5 := Tryz.underlying5
  a5 := Tryz.isAgg5
  z5 := Tryz.sizeOf5
  v5 := Tryz.zeroValue5
  infoByte := by kernel_rfl
  cellsByte := by kernel_rfl
  sizeByte := by kernel_rfl
  neB5 := by decide }
open Go.RowKit in
/-- (*strings.Builder).String: "String returns the accumulated string.": OF A BUILDER THAT HOLDS AT LEAST ONE BYTE. ✋ THE MODEL FREEZES THOSE BYTES IN THE BUFFER (unsafe.String): a later write INTO them ends the model's run without an answer; a later append BEHIND them goes on. The statement's order of evaluation is drawn: one draw. (LAID: no walk: one application.) -/
theorem Tryz.Builder_String (B b : Nat) (l : List UInt8) (w : World) (h : Lib.IsBuilder 149 5 B b (Lib.byteCells l) w) (h0 : l ≠ []) :
    Calls Tryz.prog 127 #[.pointer (some ⟨b, 0, none⟩)] w fun e w' => e = .returned (.string ⟨l.toArray⟩) ∧ Below B w w' := Any.Builder_String Tryz.lays169 Tryz.Builder_Extra_169 B b l w h h0
open Go.RowKit in
/-- (*strings.Builder).String OF A BUILDER THAT HOLDS NO BYTE: the empty string. (Its buffer is nil, or a row of which it has taken nothing yet; where that row has NO capacity the model lays one new block for unsafe.SliceData's 'some address'.) One draw. (LAID: no walk: one application.) -/
theorem Tryz.Builder_String_empty (B b : Nat) (w : World) (h : Lib.IsBuilder 149 5 B b [] w) (hBw : B ≤ w.heap.size) :
    Calls Tryz.prog 127 #[.pointer (some ⟨b, 0, none⟩)] w fun e w' => e = .returned (.string ⟨#[]⟩) ∧ Below B w w' := Any.Builder_String_empty Tryz.lays169 Tryz.Builder_Extra_169 B b w h hBw
open Go.RowKit in
/-- (*strings.Builder).String: "String returns the accumulated string.": WHATEVER THE BUILDER HOLDS. (LAID: no walk: one application.) -/
theorem Tryz.Builder_String_any (B b : Nat) (l : List UInt8) (w : World) (h : Lib.IsBuilder 149 5 B b (Lib.byteCells l) w) (hBw : B ≤ w.heap.size) :
    Calls Tryz.prog 127 #[.pointer (some ⟨b, 0, none⟩)] w fun e w' => e = .returned (.string ⟨l.toArray⟩) ∧ Below B w w' := Any.Builder_String_any Tryz.lays169 Tryz.Builder_Extra_169 B b l w h hBw
def Tryz.lays119_ren : Go.Shelf.Ren := ⟨fun | 119 => 114 | n => n, fun | 21 => 21 | 4 => 4 | n => n, fun | n => n⟩
theorem Tryz.lays119 : Go.Proofs.Lays.n119 Tryz.prog Tryz.lays119_ren := {
  mixed := by kernel_rfl
  f119 := Tryz.func114.trans (congrArg some (by kernel_rfl))
  t4 := Tryz.underlying4
  a4 := Tryz.isAgg4
  z4 := Tryz.sizeOf4
  v4 := Tryz.zeroValue4
  t21 := Tryz.underlying21
  a21 := Tryz.isAgg21
  z21 := Tryz.sizeOf21
  v21 := Tryz.zeroValue21 }
/-- utf8.ValidRune: "ValidRune reports whether r can be legally encoded as UTF-8. Code points that are out of range or a surrogate half are illegal.": IT RETURNS 'Lib.validRune r'; the world is as it was. (LAID: no walk: one application.) -/
theorem Tryz.utf8_ValidRune (r : Int) (w : World) :
    Calls Tryz.prog 114 #[.int .i32 r] w fun e w' => e = .returned (.bool (Lib.validRune r)) ∧ w' = w := Any.utf8_ValidRune Tryz.lays119 r w
def Tryz.lays213_ren : Go.Shelf.Ren := ⟨fun | 213 => 118 | 265 => 122 | n => n, fun | 9 => 9 | 3 => 3 | n => n, fun | n => n⟩
theorem Tryz.lays213 : Go.Proofs.Lays.n213 Tryz.prog Tryz.lays213_ren := {
  mixed := by kernel_rfl
  f213 := Tryz.func118.trans (congrArg some (by kernel_rfl))
  f265 := Tryz.func122.trans (congrArg some (by kernel_rfl))
  t3 := Tryz.underlying3
  a3 := Tryz.isAgg3
  z3 := Tryz.sizeOf3
  v3 := Tryz.zeroValue3
  t9 := Tryz.underlying9
  a9 := Tryz.isAgg9
  z9 := Tryz.sizeOf9
  v9 := Tryz.zeroValue9 }
open Go.RowKit in
/-- internal/bytealg.CompareString (what strings.Compare calls): IT RETURNS 'Lib.compareBytes a b'; the world is as it was. (LAID: no walk: one application.) -/
theorem Tryz.bytealg_CompareString (a b : ByteArray) (w : World) :
    Calls Tryz.prog 118 #[.string a, .string b] w fun e w' => e = .returned (.int .i64 (Lib.compareBytes a.data.toList b.data.toList)) ∧ w' = w := Any.bytealg_CompareString Tryz.lays213 a b w
def Tryz.lays106_ren : Go.Shelf.Ren := ⟨fun | 106 => 109 | 213 => 118 | 265 => 122 | n => n, fun | 9 => 9 | 3 => 3 | n => n, fun | n => n⟩
theorem Tryz.lays106 : Go.Proofs.Lays.n106 Tryz.prog Tryz.lays106_ren := {
  mixed := by kernel_rfl
  f106 := Tryz.func109.trans (congrArg some (by kernel_rfl))
  f213 := Tryz.func118.trans (congrArg some (by kernel_rfl))
  f265 := Tryz.func122.trans (congrArg some (by kernel_rfl))
  t3 := Tryz.underlying3
  a3 := Tryz.isAgg3
  z3 := Tryz.sizeOf3
  v3 := Tryz.zeroValue3
  t9 := Tryz.underlying9
  a9 := Tryz.isAgg9
  z9 := Tryz.sizeOf9
  v9 := Tryz.zeroValue9 }
open Go.RowKit in
/-- strings.Compare: "Compare returns an integer comparing two strings lexicographically. The result will be 0 if a == b, -1 if a < b, and +1 if a > b.": IT RETURNS 'Lib.compareBytes a b'; the world is as it was. (LAID: no walk: one application.) -/
theorem Tryz.strings_Compare (a b : ByteArray) (w : World) :
    Calls Tryz.prog 109 #[.string a, .string b] w fun e w' => e = .returned (.int .i64 (Lib.compareBytes a.data.toList b.data.toList)) ∧ w' = w := Any.strings_Compare Tryz.lays106 a b w
def Tryz.lays137_ren : Go.Shelf.Ren := ⟨fun | 137 => 113 | 217 => 120 | 266 => 124 | n => n, fun | 9 => 9 | 5 => 5 | 3 => 3 | n => n, fun | n => n⟩
theorem Tryz.lays137 : Go.Proofs.Lays.n137 Tryz.prog Tryz.lays137_ren := {
  mixed := by kernel_rfl
  f137 := Tryz.func113.trans (congrArg some (by kernel_rfl))
  f217 := Tryz.func120.trans (congrArg some (by kernel_rfl))
  f266 := Tryz.func124.trans (congrArg some (by kernel_rfl))
  t3 := Tryz.underlying3
  a3 := Tryz.isAgg3
  z3 := Tryz.sizeOf3
  v3 := Tryz.zeroValue3
  t5 := Tryz.underlying5
  a5 := Tryz.isAgg5
  z5 := Tryz.sizeOf5
  v5 := Tryz.zeroValue5
  t9 := Tryz.underlying9
  a9 := Tryz.isAgg9
  z9 := Tryz.sizeOf9
  v9 := Tryz.zeroValue9 }
open Go.RowKit in
/-- strings.IndexByte: "IndexByte returns the index of the first instance of c in s, or -1 if c is not present in s.": IT RETURNS 'Lib.indexByte s c'; the world is as it was. (LAID: no walk: one application.) -/
theorem Tryz.strings_IndexByte (s : ByteArray) (c : Int) (w : World) :
    Calls Tryz.prog 113 #[.string s, .int .u8 c] w fun e w' => e = .returned (.int .i64 (Lib.indexByte s.data.toList c.toNat.toUInt8)) ∧ w' = w := Any.strings_IndexByte Tryz.lays137 s c w
def Tryz.lays215_ren : Go.Shelf.Ren := ⟨fun | 215 => 106 | n => n, fun | 3 => 3 | 4 => 4 | n => n, fun | n => n⟩
theorem Tryz.lays215 : Go.Proofs.Lays.n215 Tryz.prog Tryz.lays215_ren := {
  mixed := by kernel_rfl
  f215 := Tryz.func106.trans (congrArg some (by kernel_rfl))
  t3 := Tryz.underlying3
  a3 := Tryz.isAgg3
  z3 := Tryz.sizeOf3
  v3 := Tryz.zeroValue3
  t4 := Tryz.underlying4
  a4 := Tryz.isAgg4
  z4 := Tryz.sizeOf4
  v4 := Tryz.zeroValue4 }
open Go.RowKit in
/-- cmp.isNaN at int: 'x != x': false. (LAID: no walk: one application.) -/
theorem Tryz.cmp_isNaN_int (x : Int) (w : World) :
    Calls Tryz.prog 106 #[.int .i64 x] w fun e w' => e = .returned (.bool false) ∧ w' = w := Any.cmp_isNaN_int Tryz.lays215 x w
def Tryz.lays122_ren : Go.Shelf.Ren := ⟨fun | 122 => 93 | 215 => 106 | n => n, fun | 3 => 3 | 4 => 4 | n => n, fun | n => n⟩
theorem Tryz.lays122 : Go.Proofs.Lays.n122 Tryz.prog Tryz.lays122_ren := {
  mixed := by kernel_rfl
  f122 := Tryz.func93.trans (congrArg some (by kernel_rfl))
  f215 := Tryz.func106.trans (congrArg some (by kernel_rfl))
  t3 := Tryz.underlying3
  a3 := Tryz.isAgg3
  z3 := Tryz.sizeOf3
  v3 := Tryz.zeroValue3
  t4 := Tryz.underlying4
  a4 := Tryz.isAgg4
  z4 := Tryz.sizeOf4
  v4 := Tryz.zeroValue4 }
open Go.RowKit in
/-- cmp.Compare at int: "Compare returns -1 if x is less than y, 0 if x equals y, +1 if x is greater than y.": IT RETURNS 'Lib.compareInt x y'; the world is as it was. (LAID: no walk: one application.) -/
theorem Tryz.cmp_Compare_int (x y : Int) (w : World) :
    Calls Tryz.prog 93 #[.int .i64 x, .int .i64 y] w fun e w' => e = .returned (.int .i64 (Lib.compareInt x y)) ∧ w' = w := Any.cmp_Compare_int Tryz.lays122 x y w
open Go.RowKit in
/-- (*strings.Builder).String: "String returns the accumulated string.": OF A BUILDER THAT HOLDS AT LEAST ONE BYTE. ✋ THE MODEL FREEZES THOSE BYTES IN THE BUFFER (unsafe.String): a later write INTO them ends the model's run without an answer; a later append BEHIND them goes on. The statement's order of evaluation is drawn: one draw. THE FORM '_f': IT SAYS BESIDES THAT THE BUILDER IS A BUILDER STILL ('Lib.IsBuilderF', the same bytes): SO IT CAN BE WRITTEN ON: 'b.WriteString(b.String()[:k])'. (LAID: no walk: one application.) -/
theorem Tryz.Builder_String_f (B b : Nat) (l : List UInt8) (w : World) (h : Lib.IsBuilderF 149 5 B b (Lib.byteCells l) w) (h0 : l ≠ []) :
    Calls Tryz.prog 127 #[.pointer (some ⟨b, 0, none⟩)] w fun e w' => e = .returned (.string ⟨l.toArray⟩) ∧ (Lib.IsBuilderF 149 5 B b (Lib.byteCells l) w' ∧ Below B w w') := Any.Builder_String_f Tryz.lays169 Tryz.Builder_Extra_169 B b l w h h0
open Go.RowKit in
/-- (*strings.Builder).String OF A BUILDER THAT HOLDS NO BYTE: the empty string; THE FORM '_f': a builder still. (LAID: no walk: one application.) -/
theorem Tryz.Builder_String_empty_f (B b : Nat) (w : World) (h : Lib.IsBuilderF 149 5 B b [] w) (hBw : B ≤ w.heap.size) :
    Calls Tryz.prog 127 #[.pointer (some ⟨b, 0, none⟩)] w fun e w' => e = .returned (.string ⟨#[]⟩) ∧ (Lib.IsBuilderF 149 5 B b [] w' ∧ Below B w w') := Any.Builder_String_empty_f Tryz.lays169 Tryz.Builder_Extra_169 B b w h hBw
open Go.RowKit in
/-- (*strings.Builder).String: "String returns the accumulated string.": WHATEVER THE BUILDER HOLDS; THE FORM '_f': OF A BUILDER THAT MAY HAVE BEEN READ BEFORE; AND IT IS A BUILDER STILL, holding the same bytes: it can be written on. (LAID: no walk: one application.) -/
theorem Tryz.Builder_String_any_f (B b : Nat) (l : List UInt8) (w : World) (h : Lib.IsBuilderF 149 5 B b (Lib.byteCells l) w) (hBw : B ≤ w.heap.size) :
    Calls Tryz.prog 127 #[.pointer (some ⟨b, 0, none⟩)] w fun e w' => e = .returned (.string ⟨l.toArray⟩) ∧ (Lib.IsBuilderF 149 5 B b (Lib.byteCells l) w' ∧ Below B w w') := Any.Builder_String_any_f Tryz.lays169 Tryz.Builder_Extra_169 B b l w h hBw
open Go.RowKit in
/-- (*strings.Builder).String: "String returns the accumulated string.": OF A BUILDER THAT HOLDS AT LEAST ONE BYTE. ✋ THE MODEL FREEZES THOSE BYTES IN THE BUFFER (unsafe.String): a later write INTO them ends the model's run without an answer; a later append BEHIND them goes on. The statement's order of evaluation is drawn: one draw. THE FORM '_k': OVER 'Lib.IsBuilderF' (a builder that 'String()' may have read), AND WITH THE FRAME THAT REACHES ABOVE THE BUILDER: 'Lib.OthersKept': every block that is not b and is no row of uint8's stands as it stood: the iterator of a range among them. (LAID: no walk: one application.) -/
theorem Tryz.Builder_String_k (B b : Nat) (l : List UInt8) (w : World) (h : Lib.IsBuilderF 149 5 B b (Lib.byteCells l) w) (h0 : l ≠ []) :
    Calls Tryz.prog 127 #[.pointer (some ⟨b, 0, none⟩)] w fun e w' => e = .returned (.string ⟨l.toArray⟩) ∧ (Lib.IsBuilderF 149 5 B b (Lib.byteCells l) w' ∧ Below B w w' ∧ Lib.OthersKept 5 (some b) w w') := Any.Builder_String_k Tryz.lays169 Tryz.Builder_Extra_169 B b l w h h0
open Go.RowKit in
/-- (*strings.Builder).String OF A BUILDER THAT HOLDS NO BYTE: the empty string; THE FORM '_k': OVER 'Lib.IsBuilderF' (a builder that 'String()' may have read), AND WITH THE FRAME THAT REACHES ABOVE THE BUILDER: 'Lib.OthersKept': every block that is not b and is no row of uint8's stands as it stood: the iterator of a range among them. (LAID: no walk: one application.) -/
theorem Tryz.Builder_String_empty_k (B b : Nat) (w : World) (h : Lib.IsBuilderF 149 5 B b [] w) (hBw : B ≤ w.heap.size) :
    Calls Tryz.prog 127 #[.pointer (some ⟨b, 0, none⟩)] w fun e w' => e = .returned (.string ⟨#[]⟩) ∧ (Lib.IsBuilderF 149 5 B b [] w' ∧ Below B w w' ∧ Lib.OthersKept 5 (some b) w w') := Any.Builder_String_empty_k Tryz.lays169 Tryz.Builder_Extra_169 B b w h hBw
open Go.RowKit in
/-- (*strings.Builder).String: "String returns the accumulated string.": WHATEVER THE BUILDER HOLDS; THE FORM '_k': OVER 'Lib.IsBuilderF' (a builder that 'String()' may have read), AND WITH THE FRAME THAT REACHES ABOVE THE BUILDER: 'Lib.OthersKept': every block that is not b and is no row of uint8's stands as it stood: the iterator of a range among them. (LAID: no walk: one application.) -/
theorem Tryz.Builder_String_any_k (B b : Nat) (l : List UInt8) (w : World) (h : Lib.IsBuilderF 149 5 B b (Lib.byteCells l) w) (hBw : B ≤ w.heap.size) :
    Calls Tryz.prog 127 #[.pointer (some ⟨b, 0, none⟩)] w fun e w' => e = .returned (.string ⟨l.toArray⟩) ∧ (Lib.IsBuilderF 149 5 B b (Lib.byteCells l) w' ∧ Below B w w' ∧ Lib.OthersKept 5 (some b) w w') := Any.Builder_String_any_k Tryz.lays169 Tryz.Builder_Extra_169 B b l w h hBw
def Tryz.laysM316_ren : Go.Shelf.Ren := ⟨fun | 316 => 86 | n => n, fun | 9 => 9 | 3 => 3 | 4 => 4 | 37 => 122 | 0 => 0 | 127 => 123 | 5 => 5 | n => n, fun | n => n⟩
theorem Tryz.laysM316 : Go.Proofs.LaysM.n316 Tryz.prog Tryz.laysM316_ren := {
  mixed := by kernel_rfl
  f316 := Tryz.func86.trans (congrArg some (by kernel_rfl))
  t0 := Tryz.underlying0
  a0 := Tryz.isAgg0
  z0 := Tryz.sizeOf0
  v0 := Tryz.zeroValue0
  t3 := Tryz.underlying3
  a3 := Tryz.isAgg3
  z3 := Tryz.sizeOf3
  v3 := Tryz.zeroValue3
  t4 := Tryz.underlying4
  a4 := Tryz.isAgg4
  z4 := Tryz.sizeOf4
  v4 := Tryz.zeroValue4
  t9 := Tryz.underlying9
  a9 := Tryz.isAgg9
  z9 := Tryz.sizeOf9
  v9 := Tryz.zeroValue9
  t37 := Tryz.underlying122
  a37 := Tryz.isAgg122
  z37 := Tryz.sizeOf122
  v37 := Tryz.zeroValue122
  t127 := Tryz.underlying123
  a127 := Tryz.isAgg123
  z127 := Tryz.sizeOf123
  v127 := Tryz.zeroValue123
  t5 := Tryz.underlying5
  a5 := Tryz.isAgg5
  z5 := Tryz.sizeOf5
  v5 := Tryz.zeroValue5
  i0 := by kernel_rfl
  i3 := by kernel_rfl
  i4 := by kernel_rfl
  i5 := by kernel_rfl
  i9 := by kernel_rfl
  i37 := by kernel_rfl
  i127 := by kernel_rfl }
open Go.RowKit in
/-- internal/stringslite.Clone (what strings.Clone calls): "Clone returns a fresh copy of s.": THE SAME BYTES. Of what was there nothing has turned (a new row is laid, and frozen, where s is not empty). (LAID: no walk: one application.) -/
theorem Tryz.stringslite_Clone (s : ByteArray) (w : World) (hlim : s.size ≤ 281474976710656) :
    Calls Tryz.prog 86 #[.string s] w fun e w' => e = .returned (.string s) ∧ Below w.heap.size w w' := Any.stringslite_Clone Tryz.laysM316 s w hlim
def Tryz.lays217_ren : Go.Shelf.Ren := ⟨fun | 217 => 120 | 266 => 124 | n => n, fun | 9 => 9 | 5 => 5 | 3 => 3 | n => n, fun | n => n⟩
theorem Tryz.lays217 : Go.Proofs.Lays.n217 Tryz.prog Tryz.lays217_ren := {
  mixed := by kernel_rfl
  f217 := Tryz.func120.trans (congrArg some (by kernel_rfl))
  f266 := Tryz.func124.trans (congrArg some (by kernel_rfl))
  t3 := Tryz.underlying3
  a3 := Tryz.isAgg3
  z3 := Tryz.sizeOf3
  v3 := Tryz.zeroValue3
  t5 := Tryz.underlying5
  a5 := Tryz.isAgg5
  z5 := Tryz.sizeOf5
  v5 := Tryz.zeroValue5
  t9 := Tryz.underlying9
  a9 := Tryz.isAgg9
  z9 := Tryz.sizeOf9
  v9 := Tryz.zeroValue9 }
open Go.RowKit Go.Lib in
/-- internal/stringslite.IndexByte (what strings.IndexByte calls): IT RETURNS 'Lib.indexByte s c'; the world is as it was. (LAID: no walk: one application.) -/
theorem Tryz.stringslite_IndexByte (s : ByteArray) (c : Int) (w : World) :
    Calls Tryz.prog 120 #[.string s, .int .u8 c] w fun e w' => e = .returned (.int .i64 (Lib.indexByte s.data.toList c.toNat.toUInt8)) ∧ w' = w := Any.stringslite_IndexByte Tryz.lays217 s c w
def Tryz.lays224_ren : Go.Shelf.Ren := ⟨fun | 224 => 115 | n => n, fun | 3 => 3 | n => n, fun | n => n⟩
theorem Tryz.lays224 : Go.Proofs.Lays.n224 Tryz.prog Tryz.lays224_ren := {
  mixed := by kernel_rfl
  f224 := Tryz.func115.trans (congrArg some (by kernel_rfl))
  t3 := Tryz.underlying3
  a3 := Tryz.isAgg3
  z3 := Tryz.sizeOf3
  v3 := Tryz.zeroValue3 }
open Go.RowKit Go.Lib in
/-- internal/bytealg.Cutover: "Cutover reports the number of failures of IndexByte we should tolerate before switching over to Index. n is the number of bytes processed so far.": on amd64: (n + 16) / 8. (LAID: no walk: one application.) -/
theorem Tryz.bytealg_Cutover (n : Int) (h0 : 0 ≤ n) (h1 : n < 4611686018427387904) (w : World) :
    Calls Tryz.prog 115 #[.int .i64 n] w fun e w' => e = .returned (.int .i64 ((n + 16) / 8)) ∧ w' = w := Any.bytealg_Cutover Tryz.lays224 n h0 h1 w
def Tryz.lays314_ren : Go.Shelf.Ren := ⟨fun | 314 => 125 | n => n, fun | 9 => 9 | 51 => 144 | 3 => 3 | 4 => 4 | 5 => 5 | 46 => 133 | n => n, fun | n => n⟩
theorem Tryz.lays314 : Go.Proofs.Lays.n314 Tryz.prog Tryz.lays314_ren := {
  mixed := by kernel_rfl
  f314 := Tryz.func125.trans (congrArg some (by kernel_rfl))
  t3 := Tryz.underlying3
  a3 := Tryz.isAgg3
  z3 := Tryz.sizeOf3
  v3 := Tryz.zeroValue3
  t4 := Tryz.underlying4
  a4 := Tryz.isAgg4
  z4 := Tryz.sizeOf4
  v4 := Tryz.zeroValue4
  t5 := Tryz.underlying5
  a5 := Tryz.isAgg5
  z5 := Tryz.sizeOf5
  v5 := Tryz.zeroValue5
  t9 := Tryz.underlying9
  a9 := Tryz.isAgg9
  z9 := Tryz.sizeOf9
  v9 := Tryz.zeroValue9
  t46 := Tryz.underlying133
  a46 := Tryz.isAgg133
  z46 := Tryz.sizeOf133
  v46 := Tryz.zeroValue133
  t51 := Tryz.underlying144
  a51 := Tryz.isAgg144
  z51 := Tryz.sizeOf144
  v51 := Tryz.zeroValue144 }
open Go.RowKit Go.Lib in
/-- hashStr: "returns the hash and the appropriate multiplicative factor for use in Rabin-Karp algorithm": THE HASH OF ALL OF sep, AND 16777619 ^ len(sep), both in uint32. (LAID: no walk: one application.) -/
theorem Tryz.bytealg_hashStr (sep : ByteArray) (hs : sep.size < 4294967281) (w : World) :
    Calls Tryz.prog 125 #[.string sep] w fun e w' => e = .returned (.tuple #[.int .u32 (RK.H sep.data.toList % 4294967296), .int .u32 (16777619 ^ sep.size % 4294967296)]) ∧ w' = w := Any.bytealg_hashStr Tryz.lays314 sep hs w
def Tryz.lays267_ren : Go.Shelf.Ren := ⟨fun | 267 => 121 | 314 => 125 | n => n, fun | 9 => 9 | 3 => 3 | 146 => 145 | 51 => 144 | 4 => 4 | 5 => 5 | 46 => 133 | n => n, fun | n => n⟩
theorem Tryz.lays267 : Go.Proofs.Lays.n267 Tryz.prog Tryz.lays267_ren := {
  mixed := by kernel_rfl
  f267 := Tryz.func121.trans (congrArg some (by kernel_rfl))
  f314 := Tryz.func125.trans (congrArg some (by kernel_rfl))
  t3 := Tryz.underlying3
  a3 := Tryz.isAgg3
  z3 := Tryz.sizeOf3
  v3 := Tryz.zeroValue3
  t4 := Tryz.underlying4
  a4 := Tryz.isAgg4
  z4 := Tryz.sizeOf4
  v4 := Tryz.zeroValue4
  t5 := Tryz.underlying5
  a5 := Tryz.isAgg5
  z5 := Tryz.sizeOf5
  v5 := Tryz.zeroValue5
  t9 := Tryz.underlying9
  a9 := Tryz.isAgg9
  z9 := Tryz.sizeOf9
  v9 := Tryz.zeroValue9
  t46 := Tryz.underlying133
  a46 := Tryz.isAgg133
  z46 := Tryz.sizeOf133
  v46 := Tryz.zeroValue133
  t51 := Tryz.underlying144
  a51 := Tryz.isAgg144
  z51 := Tryz.sizeOf144
  v51 := Tryz.zeroValue144
  t146 := Tryz.underlying145
  a146 := Tryz.isAgg145
  z146 := Tryz.sizeOf145
  v146 := Tryz.zeroValue145 }
open Go.RowKit Go.Lib in
theorem Tryz.bytealg_IndexRabinKarp (s sep : ByteArray) (h1 : 1 ≤ sep.size) (h2 : sep.size ≤ s.size) (hs : s.size < 4294967281) (w : World) :
    Calls Tryz.prog 121 #[.string s, .string sep] w fun e w' => e = .returned (.int .i64 (Lib.index s.data.toList sep.data.toList)) ∧ w' = w := Any.bytealg_IndexRabinKarp Tryz.lays267 s sep h1 h2 hs w
def Tryz.lays219_ren : Go.Shelf.Ren := ⟨fun | 219 => 112 | 217 => 120 | 225 => 116 | 224 => 115 | 267 => 121 | 266 => 124 | 314 => 125 | n => n, fun | 9 => 9 | 3 => 3 | 4 => 4 | 5 => 5 | 46 => 133 | 146 => 145 | 51 => 144 | n => n, fun | 1 => 0 | n => n⟩
theorem Tryz.lays219 : Go.Proofs.Lays.n219 Tryz.prog Tryz.lays219_ren := {
  mixed := by kernel_rfl
  f217 := Tryz.func120.trans (congrArg some (by kernel_rfl))
  f219 := Tryz.func112.trans (congrArg some (by kernel_rfl))
  f224 := Tryz.func115.trans (congrArg some (by kernel_rfl))
  f225 := Tryz.func116.trans (congrArg some (by kernel_rfl))
  f266 := Tryz.func124.trans (congrArg some (by kernel_rfl))
  f267 := Tryz.func121.trans (congrArg some (by kernel_rfl))
  f314 := Tryz.func125.trans (congrArg some (by kernel_rfl))
  t3 := Tryz.underlying3
  a3 := Tryz.isAgg3
  z3 := Tryz.sizeOf3
  v3 := Tryz.zeroValue3
  t4 := Tryz.underlying4
  a4 := Tryz.isAgg4
  z4 := Tryz.sizeOf4
  v4 := Tryz.zeroValue4
  t5 := Tryz.underlying5
  a5 := Tryz.isAgg5
  z5 := Tryz.sizeOf5
  v5 := Tryz.zeroValue5
  t9 := Tryz.underlying9
  a9 := Tryz.isAgg9
  z9 := Tryz.sizeOf9
  v9 := Tryz.zeroValue9
  t46 := Tryz.underlying133
  a46 := Tryz.isAgg133
  z46 := Tryz.sizeOf133
  v46 := Tryz.zeroValue133
  t51 := Tryz.underlying144
  a51 := Tryz.isAgg144
  z51 := Tryz.sizeOf144
  v51 := Tryz.zeroValue144
  t146 := Tryz.underlying145
  a146 := Tryz.isAgg145
  z146 := Tryz.sizeOf145
  v146 := Tryz.zeroValue145
  g1 := by kernel_rfl }
open Go.RowKit Go.Lib in
/-- internal/stringslite.Index (what strings.Index calls) AT A substr OF ONE BYTE c: IT RETURNS 'Lib.indexByte s c'; the world is as it was. (LAID: no walk: one application.) -/
theorem Tryz.stringslite_Index_one (s : ByteArray) (c : UInt8) (w : World) :
    Calls Tryz.prog 112 #[.string s, .string ⟨#[c]⟩] w fun e w' => e = .returned (.int .i64 (Lib.indexByte s.data.toList c)) ∧ w' = w := Any.stringslite_Index_one Tryz.lays219 s c w
open Go.RowKit Go.Lib in
/-- internal/stringslite.Index (what strings.Index calls) AT A substr OF WHATEVER LENGTH: IT RETURNS 'Lib.index s substr'; the world is as it was. 'm': what internal/bytealg.MaxLen holds: whatever. (LAID: no walk: one application.) -/
theorem Tryz.stringslite_Index (s sub : ByteArray) (m : Int) (w : World) (hs : s.size < 4294967281) (hm : w.cell? ⟨0, 0, none⟩ = some (.int .i64 m)) :
    Calls Tryz.prog 112 #[.string s, .string sub] w fun e w' => e = .returned (.int .i64 (Lib.index s.data.toList sub.data.toList)) ∧ w' = w := Any.stringslite_Index Tryz.lays219 s sub m w hs hm
def Tryz.lays220_ren : Go.Shelf.Ren := ⟨fun | 220 => 100 | 219 => 112 | 217 => 120 | 225 => 116 | 224 => 115 | 267 => 121 | 266 => 124 | 314 => 125 | n => n, fun | 9 => 9 | 4 => 4 | 3 => 3 | 5 => 5 | 46 => 133 | 146 => 145 | 51 => 144 | n => n, fun | 1 => 0 | n => n⟩
theorem Tryz.lays220 : Go.Proofs.Lays.n220 Tryz.prog Tryz.lays220_ren := {
  mixed := by kernel_rfl
  f217 := Tryz.func120.trans (congrArg some (by kernel_rfl))
  f219 := Tryz.func112.trans (congrArg some (by kernel_rfl))
  f220 := Tryz.func100.trans (congrArg some (by kernel_rfl))
  f224 := Tryz.func115.trans (congrArg some (by kernel_rfl))
  f225 := Tryz.func116.trans (congrArg some (by kernel_rfl))
  f266 := Tryz.func124.trans (congrArg some (by kernel_rfl))
  f267 := Tryz.func121.trans (congrArg some (by kernel_rfl))
  f314 := Tryz.func125.trans (congrArg some (by kernel_rfl))
  t3 := Tryz.underlying3
  a3 := Tryz.isAgg3
  z3 := Tryz.sizeOf3
  v3 := Tryz.zeroValue3
  t4 := Tryz.underlying4
  a4 := Tryz.isAgg4
  z4 := Tryz.sizeOf4
  v4 := Tryz.zeroValue4
  t5 := Tryz.underlying5
  a5 := Tryz.isAgg5
  z5 := Tryz.sizeOf5
  v5 := Tryz.zeroValue5
  t9 := Tryz.underlying9
  a9 := Tryz.isAgg9
  z9 := Tryz.sizeOf9
  v9 := Tryz.zeroValue9
  t46 := Tryz.underlying133
  a46 := Tryz.isAgg133
  z46 := Tryz.sizeOf133
  v46 := Tryz.zeroValue133
  t51 := Tryz.underlying144
  a51 := Tryz.isAgg144
  z51 := Tryz.sizeOf144
  v51 := Tryz.zeroValue144
  t146 := Tryz.underlying145
  a146 := Tryz.isAgg145
  z146 := Tryz.sizeOf145
  v146 := Tryz.zeroValue145
  g1 := by kernel_rfl }
open Go.RowKit Go.Lib in
/-- internal/stringslite.Cut (what strings.Cut calls): IT RETURNS 'Lib.cut s sep'; the world is as it was but for the count of draws. (LAID: no walk: one application.) -/
theorem Tryz.stringslite_Cut (s sep : ByteArray) (m : Int) (w : World) (hs : s.size < 4294967281) (hm : w.cell? ⟨0, 0, none⟩ = some (.int .i64 m)) :
    Calls Tryz.prog 100 #[.string s, .string sep] w fun e w' => e = .returned (.tuple #[.string ⟨(Lib.cut s.data.toList sep.data.toList).1.toArray⟩, .string ⟨(Lib.cut s.data.toList sep.data.toList).2.1.toArray⟩, .bool (Lib.cut s.data.toList sep.data.toList).2.2]) ∧ ∃ n, w' = w.drewN n := Any.stringslite_Cut Tryz.lays220 s sep m w hs hm
def Tryz.lays145_ren : Go.Shelf.Ren := ⟨fun | 145 => 85 | 220 => 100 | 219 => 112 | 217 => 120 | 225 => 116 | 224 => 115 | 267 => 121 | 266 => 124 | 314 => 125 | n => n, fun | 9 => 9 | 4 => 4 | 59 => 108 | 3 => 3 | 5 => 5 | 46 => 133 | 146 => 145 | 51 => 144 | n => n, fun | 1 => 0 | n => n⟩
theorem Tryz.lays145 : Go.Proofs.Lays.n145 Tryz.prog Tryz.lays145_ren := {
  mixed := by kernel_rfl
  f145 := Tryz.func85.trans (congrArg some (by kernel_rfl))
  f217 := Tryz.func120.trans (congrArg some (by kernel_rfl))
  f219 := Tryz.func112.trans (congrArg some (by kernel_rfl))
  f220 := Tryz.func100.trans (congrArg some (by kernel_rfl))
  f224 := Tryz.func115.trans (congrArg some (by kernel_rfl))
  f225 := Tryz.func116.trans (congrArg some (by kernel_rfl))
  f266 := Tryz.func124.trans (congrArg some (by kernel_rfl))
  f267 := Tryz.func121.trans (congrArg some (by kernel_rfl))
  f314 := Tryz.func125.trans (congrArg some (by kernel_rfl))
  t3 := Tryz.underlying3
  a3 := Tryz.isAgg3
  z3 := Tryz.sizeOf3
  v3 := Tryz.zeroValue3
  t4 := Tryz.underlying4
  a4 := Tryz.isAgg4
  z4 := Tryz.sizeOf4
  v4 := Tryz.zeroValue4
  t5 := Tryz.underlying5
  a5 := Tryz.isAgg5
  z5 := Tryz.sizeOf5
  v5 := Tryz.zeroValue5
  t9 := Tryz.underlying9
  a9 := Tryz.isAgg9
  z9 := Tryz.sizeOf9
  v9 := Tryz.zeroValue9
  t46 := Tryz.underlying133
  a46 := Tryz.isAgg133
  z46 := Tryz.sizeOf133
  v46 := Tryz.zeroValue133
  t51 := Tryz.underlying144
  a51 := Tryz.isAgg144
  z51 := Tryz.sizeOf144
  v51 := Tryz.zeroValue144
  t59 := Tryz.underlying108
  a59 := Tryz.isAgg108
  z59 := Tryz.sizeOf108
  v59 := Tryz.zeroValue108
  t146 := Tryz.underlying145
  a146 := Tryz.isAgg145
  z146 := Tryz.sizeOf145
  v146 := Tryz.zeroValue145
  g1 := by kernel_rfl }
open Go.RowKit Go.Lib in
/-- strings.Cut: "Cut slices s around the first instance of sep, returning the text before and after sep. The found result reports whether sep appears in s. If sep does not appear in s, cut returns s, "", false.": IT RETURNS 'Lib.cut s sep'; the world is as it was but for the count of draws. (LAID: no walk: one application.) -/
theorem Tryz.strings_Cut (s sep : ByteArray) (m : Int) (w : World) (hs : s.size < 4294967281) (hm : w.cell? ⟨0, 0, none⟩ = some (.int .i64 m)) :
    Calls Tryz.prog 85 #[.string s, .string sep] w fun e w' => e = .returned (.tuple #[.string ⟨(Lib.cut s.data.toList sep.data.toList).1.toArray⟩, .string ⟨(Lib.cut s.data.toList sep.data.toList).2.1.toArray⟩, .bool (Lib.cut s.data.toList sep.data.toList).2.2]) ∧ ∃ n, w' = w.drewN n := Any.strings_Cut Tryz.lays145 s sep m w hs hm
def Tryz.laysM219_ren : Go.Shelf.Ren := ⟨fun | 219 => 112 | 217 => 120 | 225 => 116 | 224 => 115 | 267 => 121 | 266 => 124 | 314 => 125 | n => n, fun | 9 => 9 | 3 => 3 | 4 => 4 | 5 => 5 | 46 => 133 | 146 => 145 | 51 => 144 | n => n, fun | 1 => 0 | n => n⟩
theorem Tryz.laysM219 : Go.Proofs.LaysM.n219 Tryz.prog Tryz.laysM219_ren := {
  mixed := by kernel_rfl
  f217 := Tryz.func120.trans (congrArg some (by kernel_rfl))
  f219 := Tryz.func112.trans (congrArg some (by kernel_rfl))
  f224 := Tryz.func115.trans (congrArg some (by kernel_rfl))
  f225 := Tryz.func116.trans (congrArg some (by kernel_rfl))
  f266 := Tryz.func124.trans (congrArg some (by kernel_rfl))
  f267 := Tryz.func121.trans (congrArg some (by kernel_rfl))
  f314 := Tryz.func125.trans (congrArg some (by kernel_rfl))
  t3 := Tryz.underlying3
  a3 := Tryz.isAgg3
  z3 := Tryz.sizeOf3
  v3 := Tryz.zeroValue3
  t4 := Tryz.underlying4
  a4 := Tryz.isAgg4
  z4 := Tryz.sizeOf4
  v4 := Tryz.zeroValue4
  t5 := Tryz.underlying5
  a5 := Tryz.isAgg5
  z5 := Tryz.sizeOf5
  v5 := Tryz.zeroValue5
  t9 := Tryz.underlying9
  a9 := Tryz.isAgg9
  z9 := Tryz.sizeOf9
  v9 := Tryz.zeroValue9
  t46 := Tryz.underlying133
  a46 := Tryz.isAgg133
  z46 := Tryz.sizeOf133
  v46 := Tryz.zeroValue133
  t51 := Tryz.underlying144
  a51 := Tryz.isAgg144
  z51 := Tryz.sizeOf144
  v51 := Tryz.zeroValue144
  t146 := Tryz.underlying145
  a146 := Tryz.isAgg145
  z146 := Tryz.sizeOf145
  v146 := Tryz.zeroValue145
  g1 := by kernel_rfl
  i3 := by kernel_rfl
  i4 := by kernel_rfl
  i5 := by kernel_rfl
  i9 := by kernel_rfl
  i46 := by kernel_rfl
  i51 := by kernel_rfl
  i146 := by kernel_rfl
  m1 := by kernel_rfl
  s1_3 := fun w h => Go.Proofs.cell_of_shapedOpen_int (zero := #[.int .i64 0]) (t := 3) h (of_decide_eq_true (by kernel_rfl)) (by kernel_rfl) rfl (by kernel_rfl) (by kernel_rfl) Tryz.underlying3 }
open Go.RowKit Go.Lib in
theorem Tryz.stringslite_Index_shaped (s sub : ByteArray) (w : World) (h : w.ShapedOpen Tryz.prog) (hs : s.size < 4294967281) :
    Calls Tryz.prog 112 #[.string s, .string sub] w fun e w' => e = .returned (.int .i64 (Lib.index s.data.toList sub.data.toList)) ∧ w' = w := Any.stringslite_Index_shaped Tryz.laysM219 s sub w h hs
def Tryz.laysM220_ren : Go.Shelf.Ren := ⟨fun | 220 => 100 | 219 => 112 | 217 => 120 | 225 => 116 | 224 => 115 | 267 => 121 | 266 => 124 | 314 => 125 | n => n, fun | 9 => 9 | 4 => 4 | 3 => 3 | 5 => 5 | 46 => 133 | 146 => 145 | 51 => 144 | n => n, fun | 1 => 0 | n => n⟩
theorem Tryz.laysM220 : Go.Proofs.LaysM.n220 Tryz.prog Tryz.laysM220_ren := {
  mixed := by kernel_rfl
  f217 := Tryz.func120.trans (congrArg some (by kernel_rfl))
  f219 := Tryz.func112.trans (congrArg some (by kernel_rfl))
  f220 := Tryz.func100.trans (congrArg some (by kernel_rfl))
  f224 := Tryz.func115.trans (congrArg some (by kernel_rfl))
  f225 := Tryz.func116.trans (congrArg some (by kernel_rfl))
  f266 := Tryz.func124.trans (congrArg some (by kernel_rfl))
  f267 := Tryz.func121.trans (congrArg some (by kernel_rfl))
  f314 := Tryz.func125.trans (congrArg some (by kernel_rfl))
  t3 := Tryz.underlying3
  a3 := Tryz.isAgg3
  z3 := Tryz.sizeOf3
  v3 := Tryz.zeroValue3
  t4 := Tryz.underlying4
  a4 := Tryz.isAgg4
  z4 := Tryz.sizeOf4
  v4 := Tryz.zeroValue4
  t5 := Tryz.underlying5
  a5 := Tryz.isAgg5
  z5 := Tryz.sizeOf5
  v5 := Tryz.zeroValue5
  t9 := Tryz.underlying9
  a9 := Tryz.isAgg9
  z9 := Tryz.sizeOf9
  v9 := Tryz.zeroValue9
  t46 := Tryz.underlying133
  a46 := Tryz.isAgg133
  z46 := Tryz.sizeOf133
  v46 := Tryz.zeroValue133
  t51 := Tryz.underlying144
  a51 := Tryz.isAgg144
  z51 := Tryz.sizeOf144
  v51 := Tryz.zeroValue144
  t146 := Tryz.underlying145
  a146 := Tryz.isAgg145
  z146 := Tryz.sizeOf145
  v146 := Tryz.zeroValue145
  g1 := by kernel_rfl
  i3 := by kernel_rfl
  i4 := by kernel_rfl
  i5 := by kernel_rfl
  i9 := by kernel_rfl
  i46 := by kernel_rfl
  i51 := by kernel_rfl
  i146 := by kernel_rfl
  m1 := by kernel_rfl
  s1_3 := fun w h => Go.Proofs.cell_of_shapedOpen_int (zero := #[.int .i64 0]) (t := 3) h (of_decide_eq_true (by kernel_rfl)) (by kernel_rfl) rfl (by kernel_rfl) (by kernel_rfl) Tryz.underlying3 }
open Go.RowKit Go.Lib in
theorem Tryz.stringslite_Cut_shaped (s sep : ByteArray) (w : World) (h : w.ShapedOpen Tryz.prog) (hs : s.size < 4294967281) :
    Calls Tryz.prog 100 #[.string s, .string sep] w fun e w' => e = .returned (.tuple #[.string ⟨(Lib.cut s.data.toList sep.data.toList).1.toArray⟩, .string ⟨(Lib.cut s.data.toList sep.data.toList).2.1.toArray⟩, .bool (Lib.cut s.data.toList sep.data.toList).2.2]) ∧ ∃ n, w' = w.drewN n := Any.stringslite_Cut_shaped Tryz.laysM220 s sep w h hs
def Tryz.laysM145_ren : Go.Shelf.Ren := ⟨fun | 145 => 85 | 220 => 100 | 219 => 112 | 217 => 120 | 225 => 116 | 224 => 115 | 267 => 121 | 266 => 124 | 314 => 125 | n => n, fun | 9 => 9 | 4 => 4 | 59 => 108 | 3 => 3 | 5 => 5 | 46 => 133 | 146 => 145 | 51 => 144 | n => n, fun | 1 => 0 | n => n⟩
theorem Tryz.laysM145 : Go.Proofs.LaysM.n145 Tryz.prog Tryz.laysM145_ren := {
  mixed := by kernel_rfl
  f145 := Tryz.func85.trans (congrArg some (by kernel_rfl))
  f217 := Tryz.func120.trans (congrArg some (by kernel_rfl))
  f219 := Tryz.func112.trans (congrArg some (by kernel_rfl))
  f220 := Tryz.func100.trans (congrArg some (by kernel_rfl))
  f224 := Tryz.func115.trans (congrArg some (by kernel_rfl))
  f225 := Tryz.func116.trans (congrArg some (by kernel_rfl))
  f266 := Tryz.func124.trans (congrArg some (by kernel_rfl))
  f267 := Tryz.func121.trans (congrArg some (by kernel_rfl))
  f314 := Tryz.func125.trans (congrArg some (by kernel_rfl))
  t3 := Tryz.underlying3
  a3 := Tryz.isAgg3
  z3 := Tryz.sizeOf3
  v3 := Tryz.zeroValue3
  t4 := Tryz.underlying4
  a4 := Tryz.isAgg4
  z4 := Tryz.sizeOf4
  v4 := Tryz.zeroValue4
  t5 := Tryz.underlying5
  a5 := Tryz.isAgg5
  z5 := Tryz.sizeOf5
  v5 := Tryz.zeroValue5
  t9 := Tryz.underlying9
  a9 := Tryz.isAgg9
  z9 := Tryz.sizeOf9
  v9 := Tryz.zeroValue9
  t46 := Tryz.underlying133
  a46 := Tryz.isAgg133
  z46 := Tryz.sizeOf133
  v46 := Tryz.zeroValue133
  t51 := Tryz.underlying144
  a51 := Tryz.isAgg144
  z51 := Tryz.sizeOf144
  v51 := Tryz.zeroValue144
  t59 := Tryz.underlying108
  a59 := Tryz.isAgg108
  z59 := Tryz.sizeOf108
  v59 := Tryz.zeroValue108
  t146 := Tryz.underlying145
  a146 := Tryz.isAgg145
  z146 := Tryz.sizeOf145
  v146 := Tryz.zeroValue145
  g1 := by kernel_rfl
  i3 := by kernel_rfl
  i4 := by kernel_rfl
  i5 := by kernel_rfl
  i9 := by kernel_rfl
  i46 := by kernel_rfl
  i51 := by kernel_rfl
  i59 := by kernel_rfl
  i146 := by kernel_rfl
  m1 := by kernel_rfl
  s1_3 := fun w h => Go.Proofs.cell_of_shapedOpen_int (zero := #[.int .i64 0]) (t := 3) h (of_decide_eq_true (by kernel_rfl)) (by kernel_rfl) rfl (by kernel_rfl) (by kernel_rfl) Tryz.underlying3 }
open Go.RowKit Go.Lib in
theorem Tryz.strings_Cut_shaped (s sep : ByteArray) (w : World) (h : w.ShapedOpen Tryz.prog) (hs : s.size < 4294967281) :
    Calls Tryz.prog 85 #[.string s, .string sep] w fun e w' => e = .returned (.tuple #[.string ⟨(Lib.cut s.data.toList sep.data.toList).1.toArray⟩, .string ⟨(Lib.cut s.data.toList sep.data.toList).2.1.toArray⟩, .bool (Lib.cut s.data.toList sep.data.toList).2.2]) ∧ ∃ n, w' = w.drewN n := Any.strings_Cut_shaped Tryz.laysM145 s sep w h hs
def Tryz.lays206_ren : Go.Shelf.Ren := ⟨fun | 206 => 99 | n => n, fun | 9 => 9 | 4 => 4 | 3 => 3 | n => n, fun | n => n⟩
theorem Tryz.lays206 : Go.Proofs.Lays.n206 Tryz.prog Tryz.lays206_ren := {
  mixed := by kernel_rfl
  f206 := Tryz.func99.trans (congrArg some (by kernel_rfl))
  t3 := Tryz.underlying3
  a3 := Tryz.isAgg3
  z3 := Tryz.sizeOf3
  v3 := Tryz.zeroValue3
  t4 := Tryz.underlying4
  a4 := Tryz.isAgg4
  z4 := Tryz.sizeOf4
  v4 := Tryz.zeroValue4
  t9 := Tryz.underlying9
  a9 := Tryz.isAgg9
  z9 := Tryz.sizeOf9
  v9 := Tryz.zeroValue9 }
open Go.RowKit Go.Lib in
/-- internal/stringslite.HasPrefix (what strings.HasPrefix calls). (LAID: no walk: one application.) -/
theorem Tryz.stringslite_HasPrefix (s p : ByteArray) (w : World) :
    Calls Tryz.prog 99 #[.string s, .string p] w fun e w' => e = .returned (.bool (Lib.hasPrefix s.data.toList p.data.toList)) ∧ w' = w := Any.stringslite_HasPrefix Tryz.lays206 s p w
def Tryz.lays99_ren : Go.Shelf.Ren := ⟨fun | 99 => 83 | 206 => 99 | n => n, fun | 9 => 9 | 4 => 4 | 3 => 3 | n => n, fun | n => n⟩
theorem Tryz.lays99 : Go.Proofs.Lays.n99 Tryz.prog Tryz.lays99_ren := {
  mixed := by kernel_rfl
  f99 := Tryz.func83.trans (congrArg some (by kernel_rfl))
  f206 := Tryz.func99.trans (congrArg some (by kernel_rfl))
  t3 := Tryz.underlying3
  a3 := Tryz.isAgg3
  z3 := Tryz.sizeOf3
  v3 := Tryz.zeroValue3
  t4 := Tryz.underlying4
  a4 := Tryz.isAgg4
  z4 := Tryz.sizeOf4
  v4 := Tryz.zeroValue4
  t9 := Tryz.underlying9
  a9 := Tryz.isAgg9
  z9 := Tryz.sizeOf9
  v9 := Tryz.zeroValue9 }
open Go.RowKit Go.Lib in
/-- strings.HasPrefix: "HasPrefix reports whether the string s begins with prefix.": IT RETURNS 'Lib.hasPrefix s prefix'; the world is as it was. (LAID: no walk: one application.) -/
theorem Tryz.strings_HasPrefix (s p : ByteArray) (w : World) :
    Calls Tryz.prog 83 #[.string s, .string p] w fun e w' => e = .returned (.bool (Lib.hasPrefix s.data.toList p.data.toList)) ∧ w' = w := Any.strings_HasPrefix Tryz.lays99 s p w
def Tryz.lays207_ren : Go.Shelf.Ren := ⟨fun | 207 => 87 | n => n, fun | 9 => 9 | 4 => 4 | 3 => 3 | n => n, fun | n => n⟩
theorem Tryz.lays207 : Go.Proofs.Lays.n207 Tryz.prog Tryz.lays207_ren := {
  mixed := by kernel_rfl
  f207 := Tryz.func87.trans (congrArg some (by kernel_rfl))
  t3 := Tryz.underlying3
  a3 := Tryz.isAgg3
  z3 := Tryz.sizeOf3
  v3 := Tryz.zeroValue3
  t4 := Tryz.underlying4
  a4 := Tryz.isAgg4
  z4 := Tryz.sizeOf4
  v4 := Tryz.zeroValue4
  t9 := Tryz.underlying9
  a9 := Tryz.isAgg9
  z9 := Tryz.sizeOf9
  v9 := Tryz.zeroValue9 }
open Go.RowKit Go.Lib in
/-- internal/stringslite.HasSuffix (what strings.HasSuffix calls). (LAID: no walk: one application.) -/
theorem Tryz.stringslite_HasSuffix (s p : ByteArray) (w : World) (hs : s.size ≤ 9223372036854775807) :
    Calls Tryz.prog 87 #[.string s, .string p] w fun e w' => e = .returned (.bool (Lib.hasSuffix s.data.toList p.data.toList)) ∧ w' = w := Any.stringslite_HasSuffix Tryz.lays207 s p w hs
def Tryz.lays100_ren : Go.Shelf.Ren := ⟨fun | 100 => 63 | 207 => 87 | n => n, fun | 9 => 9 | 4 => 4 | 3 => 3 | n => n, fun | n => n⟩
theorem Tryz.lays100 : Go.Proofs.Lays.n100 Tryz.prog Tryz.lays100_ren := {
  mixed := by kernel_rfl
  f100 := Tryz.func63.trans (congrArg some (by kernel_rfl))
  f207 := Tryz.func87.trans (congrArg some (by kernel_rfl))
  t3 := Tryz.underlying3
  a3 := Tryz.isAgg3
  z3 := Tryz.sizeOf3
  v3 := Tryz.zeroValue3
  t4 := Tryz.underlying4
  a4 := Tryz.isAgg4
  z4 := Tryz.sizeOf4
  v4 := Tryz.zeroValue4
  t9 := Tryz.underlying9
  a9 := Tryz.isAgg9
  z9 := Tryz.sizeOf9
  v9 := Tryz.zeroValue9 }
open Go.RowKit Go.Lib in
/-- strings.HasSuffix: "HasSuffix reports whether the string s ends with suffix.": IT RETURNS 'Lib.hasSuffix s suffix'; the world is as it was. ('hs': no Go string is longer: a caller has it of every string that it was handed.) (LAID: no walk: one application.) -/
theorem Tryz.strings_HasSuffix (s p : ByteArray) (w : World) (hs : s.size ≤ 9223372036854775807) :
    Calls Tryz.prog 63 #[.string s, .string p] w fun e w' => e = .returned (.bool (Lib.hasSuffix s.data.toList p.data.toList)) ∧ w' = w := Any.strings_HasSuffix Tryz.lays100 s p w hs
def Tryz.lays152_ren : Go.Shelf.Ren := ⟨fun | 152 => 101 | 137 => 113 | 119 => 114 | 224 => 115 | 225 => 116 | 217 => 120 | 266 => 124 | n => n, fun | 9 => 9 | 21 => 21 | 3 => 3 | 4 => 4 | 5 => 5 | 0 => 0 | 46 => 133 | n => n, fun | n => n⟩
theorem Tryz.lays152 : Go.Proofs.Lays.n152 Tryz.prog Tryz.lays152_ren := {
  mixed := by kernel_rfl
  f119 := Tryz.func114.trans (congrArg some (by kernel_rfl))
  f137 := Tryz.func113.trans (congrArg some (by kernel_rfl))
  f152 := Tryz.func101.trans (congrArg some (by kernel_rfl))
  f217 := Tryz.func120.trans (congrArg some (by kernel_rfl))
  f224 := Tryz.func115.trans (congrArg some (by kernel_rfl))
  f225 := Tryz.func116.trans (congrArg some (by kernel_rfl))
  f266 := Tryz.func124.trans (congrArg some (by kernel_rfl))
  t0 := Tryz.underlying0
  a0 := Tryz.isAgg0
  z0 := Tryz.sizeOf0
  v0 := Tryz.zeroValue0
  t3 := Tryz.underlying3
  a3 := Tryz.isAgg3
  z3 := Tryz.sizeOf3
  v3 := Tryz.zeroValue3
  t4 := Tryz.underlying4
  a4 := Tryz.isAgg4
  z4 := Tryz.sizeOf4
  v4 := Tryz.zeroValue4
  t5 := Tryz.underlying5
  a5 := Tryz.isAgg5
  z5 := Tryz.sizeOf5
  v5 := Tryz.zeroValue5
  t9 := Tryz.underlying9
  a9 := Tryz.isAgg9
  z9 := Tryz.sizeOf9
  v9 := Tryz.zeroValue9
  t21 := Tryz.underlying21
  a21 := Tryz.isAgg21
  z21 := Tryz.sizeOf21
  v21 := Tryz.zeroValue21
  t46 := Tryz.underlying133
  a46 := Tryz.isAgg133
  z46 := Tryz.sizeOf133
  v46 := Tryz.zeroValue133 }
open Go.RowKit Go.Lib in
theorem Tryz.strings_IndexRune_ascii (s : ByteArray) (r : Int) (w : World) (h0 : 0 ≤ r) (h1 : r < 128) :
    Calls Tryz.prog 101 #[.string s, .int .i32 r] w fun e w' => e = .returned (.int .i64 (Lib.indexByte s.data.toList r.toNat.toUInt8)) ∧ w' = w := Any.strings_IndexRune_ascii Tryz.lays152 s r w h0 h1
def Tryz.lays226_ren : Go.Shelf.Ren := ⟨fun | 226 => 102 | n => n, fun | 3 => 3 | 4 => 4 | n => n, fun | n => n⟩
theorem Tryz.lays226 : Go.Proofs.Lays.n226 Tryz.prog Tryz.lays226_ren := {
  mixed := by kernel_rfl
  f226 := Tryz.func102.trans (congrArg some (by kernel_rfl))
  t3 := Tryz.underlying3
  a3 := Tryz.isAgg3
  z3 := Tryz.sizeOf3
  v3 := Tryz.zeroValue3
  t4 := Tryz.underlying4
  a4 := Tryz.isAgg4
  z4 := Tryz.sizeOf4
  v4 := Tryz.zeroValue4 }
open Go.RowKit Go.Lib in
theorem Tryz.strings_shouldUseASCIISet (n : Int) (w : World) :
    Calls Tryz.prog 102 #[.int .i64 n] w fun e w' => e = .returned (.bool (decide (8 < n))) ∧ w' = w := Any.strings_shouldUseASCIISet Tryz.lays226 n w
def Tryz.lays153_ren : Go.Shelf.Ren := ⟨fun | 153 => 88 | 152 => 101 | 226 => 102 | 227 => 103 | 228 => 104 | 137 => 113 | 119 => 114 | 224 => 115 | 225 => 116 | 217 => 120 | 266 => 124 | n => n, fun | 9 => 9 | 3 => 3 | 4 => 4 | 5 => 5 | 21 => 21 | 117 => 128 | 116 => 127 | 0 => 0 | 46 => 133 | 124 => 140 | n => n, fun | n => n⟩
theorem Tryz.lays153 : Go.Proofs.Lays.n153 Tryz.prog Tryz.lays153_ren := {
  mixed := by kernel_rfl
  f119 := Tryz.func114.trans (congrArg some (by kernel_rfl))
  f137 := Tryz.func113.trans (congrArg some (by kernel_rfl))
  f152 := Tryz.func101.trans (congrArg some (by kernel_rfl))
  f153 := Tryz.func88.trans (congrArg some (by kernel_rfl))
  f217 := Tryz.func120.trans (congrArg some (by kernel_rfl))
  f224 := Tryz.func115.trans (congrArg some (by kernel_rfl))
  f225 := Tryz.func116.trans (congrArg some (by kernel_rfl))
  f226 := Tryz.func102.trans (congrArg some (by kernel_rfl))
  f227 := Tryz.func103.trans (congrArg some (by kernel_rfl))
  f228 := Tryz.func104.trans (congrArg some (by kernel_rfl))
  f266 := Tryz.func124.trans (congrArg some (by kernel_rfl))
  t0 := Tryz.underlying0
  a0 := Tryz.isAgg0
  z0 := Tryz.sizeOf0
  v0 := Tryz.zeroValue0
  t3 := Tryz.underlying3
  a3 := Tryz.isAgg3
  z3 := Tryz.sizeOf3
  v3 := Tryz.zeroValue3
  t4 := Tryz.underlying4
  a4 := Tryz.isAgg4
  z4 := Tryz.sizeOf4
  v4 := Tryz.zeroValue4
  t5 := Tryz.underlying5
  a5 := Tryz.isAgg5
  z5 := Tryz.sizeOf5
  v5 := Tryz.zeroValue5
  t9 := Tryz.underlying9
  a9 := Tryz.isAgg9
  z9 := Tryz.sizeOf9
  v9 := Tryz.zeroValue9
  t21 := Tryz.underlying21
  a21 := Tryz.isAgg21
  z21 := Tryz.sizeOf21
  v21 := Tryz.zeroValue21
  t46 := Tryz.underlying133
  a46 := Tryz.isAgg133
  z46 := Tryz.sizeOf133
  v46 := Tryz.zeroValue133
  t116 := Tryz.underlying127
  a116 := Tryz.isAgg127
  z116 := Tryz.sizeOf127
  t117 := Tryz.underlying128
  a117 := Tryz.isAgg128
  z117 := Tryz.sizeOf128
  v117 := Tryz.zeroValue128
  t124 := Tryz.underlying140
  a124 := Tryz.isAgg140
  z124 := Tryz.sizeOf140
  v124 := Tryz.zeroValue140 }
open Go.RowKit Go.Lib in
/-- chars is empty. (LAID: no walk: one application.) -/
theorem Tryz.strings_IndexAny_none (s chars : ByteArray) (w : World) (h0 : chars.size = 0) :
    Calls Tryz.prog 88 #[.string s, .string chars] w fun e w' => e = .returned (.int .i64 (Lib.indexAny s.data.toList chars.data.toList)) ∧ w' = w := Any.strings_IndexAny_none Tryz.lays153 s chars w h0
open Go.RowKit Go.Lib in
/-- chars is one ASCII byte. (LAID: no walk: one application.) -/
theorem Tryz.strings_IndexAny_one (s chars : ByteArray) (w : World) (h1 : chars.size = 1) (hascii : ∀ (j : Nat) b, chars.data.toList[j]? = some b → b.toNat < 128) :
    Calls Tryz.prog 88 #[.string s, .string chars] w fun e w' => e = .returned (.int .i64 (Lib.indexAny s.data.toList chars.data.toList)) ∧ w' = w := Any.strings_IndexAny_one Tryz.lays153 s chars w h1 hascii
open Go.RowKit Go.Lib in
/-- s of at most 8 bytes; chars of two or more: 'for i, c := range s { if IndexRune(chars, c) >= 0 { return i } }'. One block more: the model's iterator over s. (LAID: no walk: one application.) -/
theorem Tryz.strings_IndexAny_short (s chars : ByteArray) (w : World) (h2 : 2 ≤ chars.size) (h8 : s.size ≤ 8) (hascii : ∀ (j : Nat) b, s.data.toList[j]? = some b → b.toNat < 128) :
    Calls Tryz.prog 88 #[.string s, .string chars] w fun e w' => e = .returned (.int .i64 (Lib.indexAny s.data.toList chars.data.toList)) ∧ ∃ pos, w' = w.iter s pos := Any.strings_IndexAny_short Tryz.lays153 s chars w h2 h8 hascii
def Tryz.lays227_ren : Go.Shelf.Ren := ⟨fun | 227 => 103 | n => n, fun | 9 => 9 | 116 => 127 | 4 => 4 | 0 => 0 | 3 => 3 | 5 => 5 | n => n, fun | n => n⟩
theorem Tryz.lays227 : Go.Proofs.Lays.n227 Tryz.prog Tryz.lays227_ren := {
  mixed := by kernel_rfl
  f227 := Tryz.func103.trans (congrArg some (by kernel_rfl))
  t0 := Tryz.underlying0
  a0 := Tryz.isAgg0
  z0 := Tryz.sizeOf0
  v0 := Tryz.zeroValue0
  t3 := Tryz.underlying3
  a3 := Tryz.isAgg3
  z3 := Tryz.sizeOf3
  v3 := Tryz.zeroValue3
  t4 := Tryz.underlying4
  a4 := Tryz.isAgg4
  z4 := Tryz.sizeOf4
  v4 := Tryz.zeroValue4
  t5 := Tryz.underlying5
  a5 := Tryz.isAgg5
  z5 := Tryz.sizeOf5
  v5 := Tryz.zeroValue5
  t9 := Tryz.underlying9
  a9 := Tryz.isAgg9
  z9 := Tryz.sizeOf9
  v9 := Tryz.zeroValue9
  t116 := Tryz.underlying127
  a116 := Tryz.isAgg127
  z116 := Tryz.sizeOf127 }
open Go.RowKit Go.Lib in
theorem Tryz.strings_makeASCIISet (hv116 : ∀ w, (zeroValue 127).run Tryz.prog w = .ok (.agg (Array.replicate 256 (.bool false))) w) (chars : ByteArray) (w : World) (hs : chars.size < 4294967281) (hascii : ∀ (j : Nat) b, chars.data.toList[j]? = some b → b.toNat < 128) :
    Calls Tryz.prog 103 #[.string chars] w fun e w' => e = .returned (.tuple #[.agg (Lib.setCells chars.data.toList), .bool true]) ∧ w' = w.alloc (.cells (Lib.setCells chars.data.toList) 127) := Any.strings_makeASCIISet Tryz.lays227 hv116 (by kernel_rfl) chars w hs hascii
def Tryz.lays228_ren : Go.Shelf.Ren := ⟨fun | 228 => 104 | n => n, fun | 124 => 140 | 5 => 5 | 4 => 4 | 0 => 0 | 116 => 127 | n => n, fun | n => n⟩
theorem Tryz.lays228 : Go.Proofs.Lays.n228 Tryz.prog Tryz.lays228_ren := {
  mixed := by kernel_rfl
  f228 := Tryz.func104.trans (congrArg some (by kernel_rfl))
  t0 := Tryz.underlying0
  a0 := Tryz.isAgg0
  z0 := Tryz.sizeOf0
  v0 := Tryz.zeroValue0
  t4 := Tryz.underlying4
  a4 := Tryz.isAgg4
  z4 := Tryz.sizeOf4
  v4 := Tryz.zeroValue4
  t5 := Tryz.underlying5
  a5 := Tryz.isAgg5
  z5 := Tryz.sizeOf5
  v5 := Tryz.zeroValue5
  t116 := Tryz.underlying127
  a116 := Tryz.isAgg127
  z116 := Tryz.sizeOf127
  t124 := Tryz.underlying140
  a124 := Tryz.isAgg140
  z124 := Tryz.sizeOf140
  v124 := Tryz.zeroValue140 }
open Go.RowKit Go.Lib in
/-- '(as *asciiSet) contains(c)': 'as[c]': the set lies at block b, whole. (LAID: no walk: one application.) -/
theorem Tryz.asciiSet_contains (b : Nat) (x : UInt8) (v : Bool) (w : World) (hc : w.cell? ⟨b, x.toNat, none⟩ = some (.bool v)) :
    Calls Tryz.prog 104 #[.pointer (some ⟨b, 0, none⟩), .int .u8 x.toNat] w fun e w' => e = .returned (.bool v) ∧ w' = w := Any.asciiSet_contains Tryz.lays228 b x v w hc
open Go.RowKit Go.Lib in
theorem Tryz.strings_IndexAny_long (hv116 : ∀ w, (zeroValue 127).run Tryz.prog w = .ok (.agg (Array.replicate 256 (.bool false))) w) (s chars : ByteArray) (w : World) (h2 : 2 ≤ chars.size) (h8 : 8 < s.size) (hs : s.size < 4294967281) (hcs : chars.size < 4294967281) (hascii : ∀ (j : Nat) b, chars.data.toList[j]? = some b → b.toNat < 128) :
    Calls Tryz.prog 88 #[.string s, .string chars] w fun e w' => e = .returned (.int .i64 (Lib.indexAny s.data.toList chars.data.toList)) ∧ w' = ((w.alloc (.cells (Lib.setCells chars.data.toList) 127)).alloc (.cells (Lib.setCells chars.data.toList) 127)) := Any.strings_IndexAny_long Tryz.lays153 hv116 (by kernel_rfl) s chars w h2 h8 hs hcs hascii
open Go.RowKit Go.Lib in
/-- strings.IndexAny ON ASCII BYTES: the four roads under one statement. (LAID: no walk: one application.) -/
theorem Tryz.strings_IndexAny (hv116 : ∀ w, (zeroValue 127).run Tryz.prog w = .ok (.agg (Array.replicate 256 (.bool false))) w) (s chars : ByteArray) (w : World) (hs : s.size < 4294967281) (hcs : chars.size < 4294967281) (has : ∀ (j : Nat) b, s.data.toList[j]? = some b → b.toNat < 128) (hac : ∀ (j : Nat) b, chars.data.toList[j]? = some b → b.toNat < 128) :
    Calls Tryz.prog 88 #[.string s, .string chars] w fun e w' => e = .returned (.int .i64 (Lib.indexAny s.data.toList chars.data.toList)) ∧ Below w.heap.size w w' := Any.strings_IndexAny Tryz.lays153 hv116 (by kernel_rfl) s chars w hs hcs has hac
def Tryz.lays150_ren : Go.Shelf.Ren := ⟨fun | 150 => 64 | 153 => 88 | 152 => 101 | 226 => 102 | 227 => 103 | 228 => 104 | 137 => 113 | 119 => 114 | 224 => 115 | 225 => 116 | 217 => 120 | 266 => 124 | n => n, fun | 9 => 9 | 4 => 4 | 3 => 3 | 5 => 5 | 21 => 21 | 117 => 128 | 116 => 127 | 0 => 0 | 46 => 133 | 124 => 140 | n => n, fun | n => n⟩
theorem Tryz.lays150 : Go.Proofs.Lays.n150 Tryz.prog Tryz.lays150_ren := {
  mixed := by kernel_rfl
  f119 := Tryz.func114.trans (congrArg some (by kernel_rfl))
  f137 := Tryz.func113.trans (congrArg some (by kernel_rfl))
  f150 := Tryz.func64.trans (congrArg some (by kernel_rfl))
  f152 := Tryz.func101.trans (congrArg some (by kernel_rfl))
  f153 := Tryz.func88.trans (congrArg some (by kernel_rfl))
  f217 := Tryz.func120.trans (congrArg some (by kernel_rfl))
  f224 := Tryz.func115.trans (congrArg some (by kernel_rfl))
  f225 := Tryz.func116.trans (congrArg some (by kernel_rfl))
  f226 := Tryz.func102.trans (congrArg some (by kernel_rfl))
  f227 := Tryz.func103.trans (congrArg some (by kernel_rfl))
  f228 := Tryz.func104.trans (congrArg some (by kernel_rfl))
  f266 := Tryz.func124.trans (congrArg some (by kernel_rfl))
  t0 := Tryz.underlying0
  a0 := Tryz.isAgg0
  z0 := Tryz.sizeOf0
  v0 := Tryz.zeroValue0
  t3 := Tryz.underlying3
  a3 := Tryz.isAgg3
  z3 := Tryz.sizeOf3
  v3 := Tryz.zeroValue3
  t4 := Tryz.underlying4
  a4 := Tryz.isAgg4
  z4 := Tryz.sizeOf4
  v4 := Tryz.zeroValue4
  t5 := Tryz.underlying5
  a5 := Tryz.isAgg5
  z5 := Tryz.sizeOf5
  v5 := Tryz.zeroValue5
  t9 := Tryz.underlying9
  a9 := Tryz.isAgg9
  z9 := Tryz.sizeOf9
  v9 := Tryz.zeroValue9
  t21 := Tryz.underlying21
  a21 := Tryz.isAgg21
  z21 := Tryz.sizeOf21
  v21 := Tryz.zeroValue21
  t46 := Tryz.underlying133
  a46 := Tryz.isAgg133
  z46 := Tryz.sizeOf133
  v46 := Tryz.zeroValue133
  t116 := Tryz.underlying127
  a116 := Tryz.isAgg127
  z116 := Tryz.sizeOf127
  t117 := Tryz.underlying128
  a117 := Tryz.isAgg128
  z117 := Tryz.sizeOf128
  v117 := Tryz.zeroValue128
  t124 := Tryz.underlying140
  a124 := Tryz.isAgg140
  z124 := Tryz.sizeOf140
  v124 := Tryz.zeroValue140 }
open Go.RowKit Go.Lib in
/-- strings.ContainsAny ON ASCII BYTES. (LAID: no walk: one application.) -/
theorem Tryz.strings_ContainsAny (hv116 : ∀ w, (zeroValue 127).run Tryz.prog w = .ok (.agg (Array.replicate 256 (.bool false))) w) (s chars : ByteArray) (w : World) (hs : s.size < 4294967281) (hcs : chars.size < 4294967281) (has : ∀ (j : Nat) b, s.data.toList[j]? = some b → b.toNat < 128) (hac : ∀ (j : Nat) b, chars.data.toList[j]? = some b → b.toNat < 128) :
    Calls Tryz.prog 64 #[.string s, .string chars] w fun e w' => e = .returned (.bool (Lib.containsAny s.data.toList chars.data.toList)) ∧ Below w.heap.size w w' := Any.strings_ContainsAny Tryz.lays150 hv116 (by kernel_rfl) s chars w hs hcs has hac
open Go.RowKit Go.Lib in
theorem Tryz.strings_IndexAny_laid (s chars : ByteArray) (w : World) (hs : s.size < 4294967281) (hcs : chars.size < 4294967281) (has : ∀ (j : Nat) b, s.data.toList[j]? = some b → b.toNat < 128) (hac : ∀ (j : Nat) b, chars.data.toList[j]? = some b → b.toNat < 128) :
    Calls Tryz.prog 88 #[.string s, .string chars] w fun e w' => e = .returned (.int .i64 (Lib.indexAny s.data.toList chars.data.toList)) ∧ Below w.heap.size w w' := Any.strings_IndexAny_laid Tryz.lays153 (by kernel_rfl) s chars w hs hcs has hac
open Go.RowKit Go.Lib in
theorem Tryz.strings_ContainsAny_laid (s chars : ByteArray) (w : World) (hs : s.size < 4294967281) (hcs : chars.size < 4294967281) (has : ∀ (j : Nat) b, s.data.toList[j]? = some b → b.toNat < 128) (hac : ∀ (j : Nat) b, chars.data.toList[j]? = some b → b.toNat < 128) :
    Calls Tryz.prog 64 #[.string s, .string chars] w fun e w' => e = .returned (.bool (Lib.containsAny s.data.toList chars.data.toList)) ∧ Below w.heap.size w w' := Any.strings_ContainsAny_laid Tryz.lays150 (by kernel_rfl) s chars w hs hcs has hac
def Tryz.laysNm237_ren : Go.Shelf.Ren := ⟨fun | 37 => 106 | n => n, fun | 3 => 3 | 4 => 4 | n => n, fun | n => n⟩
theorem Tryz.laysNm237 : Go.Proofs.Lays2.n37 Tryz.prog Tryz.laysNm237_ren := {
  mixed := by kernel_rfl
  f37 := Tryz.func106.trans (congrArg some (by kernel_rfl))
  t3 := Tryz.underlying3
  a3 := Tryz.isAgg3
  z3 := Tryz.sizeOf3
  v3 := Tryz.zeroValue3
  t4 := Tryz.underlying4
  a4 := Tryz.isAgg4
  z4 := Tryz.sizeOf4
  v4 := Tryz.zeroValue4 }
open Go.RowKit Go.Lib in
/-- cmp.isNaN[int]: 'x != x': false. (LAID: no walk: one application.) -/
theorem Tryz.cmp_isNaN_int2 (x : Int) (w : World) :
    Calls Tryz.prog 106 #[.int .i64 x] w fun e w' => e = .returned (.bool false) ∧ w' = w := Any.cmp_isNaN_int2 Tryz.laysNm237 x w
end Go.Proofs

/- Walks: the search for a number, by halves. -/
set_option linter.unusedVariables false
set_option linter.unusedSimpArgs false
namespace Go.Proofs.YtdgedcfenpmaoaaGreat
open Go.RowKit

theorem holdN_any (x : Nd) (n : Int) (w : World) :
    Calls Tryz.prog 92 #[.agg (ndC x), .int .i64 n] w fun e w' => e = .returned (.int .i64 (Lib.compareInt x.ino n)) ∧ Below w.heap.size w w' := by
  go_enter Tryz.func92, Tryz.ntmps92
  have hb : Below w.heap.size w (w.alloc (.cells (ndC x) 42)) := (Below.refl _ w).alloc (Nat.le_refl _) _
  go_wp2_with fail; refine (Tryz.cmp_Compare_int _ _ _).mono ?_; rintro e w' ⟨rfl, rfl⟩
  go_wp2
  go_ret
  exact ⟨rfl, hb⟩

theorem cmpI_lt (x y : Int) : decide (Lib.compareInt x y < 0) = decide (x < y) := by
  unfold Lib.compareInt; split
  · simp [*]
  · split <;> simp [*]
theorem cmpI_eq (x y : Int) : (Lib.compareInt x y == 0) = (x == y) := by
  unfold Lib.compareInt; split
  · have : x ≠ y := by omega
    simp [this]
  · split
    · have : x ≠ y := by omega
      simp [this]
    · have : x = y := by omega
      simp [this]

set_option maxHeartbeats 2000000 in
theorem halvesN_any (l : List Nd) (n : Int) (v : Value) (w : World) (hv : Nds w v l) (hs : riseP l) (hl : l.length ≤ 1000000) :
    Calls Tryz.prog 91 #[v, .int .i64 n, .func (.func 92) #[] #[]] w fun e w' =>
      ∃ lo : Nat, e = .returned (.tuple #[.int .i64 lo, .bool (hasN l n)]) ∧ SrchN l n lo ∧ Below w.heap.size w w' := by
  obtain ⟨a, ca, rfl, hc, hm, _, _, HA0⟩ := hv
  unfold maxLen at hm
  have HA := Lib.hid HA0
  have HS := Lib.hid hs
  clear HA0 hs
  go_enter Tryz.func91, Tryz.ntmps91
  go_wp2
  go_loopg [9, 10] l.length (fun g s9 s10 wr => ∃ lo hi : Nat, s9 = .int .i64 lo ∧ s10 = .int .i64 hi ∧ lo ≤ hi ∧ hi ≤ l.length ∧ hi - lo ≤ g ∧ Below w.heap.size w wr ∧
    Aside ((∀ t (ht : t < l.length), t < lo → l[t].ino < n) ∧ (∀ t (ht : t < l.length), hi ≤ t → n ≤ l[t].ino)))
  case atStart => exact ⟨0, l.length, rfl, rfl, Nat.zero_le _, Nat.le_refl _, by omega, Below.refl _ _, ⟨fun t ht h => by omega, fun t ht h => by omega⟩⟩
  case round =>
    obtain ⟨lo, hi, rfl, rfl, hlh, hin, hg, hbw, I⟩ := hrel
    by_cases hlt : lo < hi
    · obtain ⟨b, o, rfl, hb, hcl⟩ := HA.out (by omega)
      have hmid : (lo + hi) / 2 < l.length := by omega
      obtain ⟨c1, c2, c3, c4, c5, c6⟩ := (hcl _ hmid).below hbw hb
      clear hcl
      generalize hy : l[(lo + hi) / 2] = y at c1 c2 c3 c4 c5 c6
      have Y := Lib.hid hy
      clear hy
      have CM := Lib.hid (cmpI_lt y.ino n)
      go_wp2_with fail
      refine (holdN_any y n _).mono ?_
      rintro e w2 ⟨rfl, b2⟩
      replace hbw := hbw.trans (b2.mono hbw.size)
      by_cases hl1 : y.ino < n
      · have hcm : decide (Lib.compareInt y.ino n < 0) = true := CM.out.trans (decide_eq_true hl1)
        have I2 := Lib.hid (show (∀ t (ht : t < l.length), t < (lo + hi) / 2 + 1 → l[t].ino < n) ∧ (∀ t (ht : t < l.length), hi ≤ t → n ≤ l[t].ino) from ⟨fun t ht h => by
          have := rise_upto HS.out hmid (a := t) (by omega); rw [Y.out] at this; omega, I.out.2⟩)
        clear hl1
        go_wp2
        go_roundg (hi - ((lo + hi) / 2 + 1))
        case measure => omega
        case rel => exact ⟨(lo + hi) / 2 + 1, hi, by rw [show ((lo : Int) + (hi : Int)) / 2 + 1 = (((lo + hi) / 2 + 1 : Nat) : Int) by omega], rfl, by omega, hin, Nat.le_refl _, hbw, I2.out⟩
      · have hcm : decide (Lib.compareInt y.ino n < 0) = false := CM.out.trans (decide_eq_false hl1)
        have I2 := Lib.hid (show (∀ t (ht : t < l.length), t < lo → l[t].ino < n) ∧ (∀ t (ht : t < l.length), (lo + hi) / 2 ≤ t → n ≤ l[t].ino) from ⟨I.out.1, fun t ht h => by
          have := rise_upto HS.out ht (a := (lo + hi) / 2) h; rw [Y.out] at this; omega⟩)
        clear hl1
        go_wp2
        go_roundg ((lo + hi) / 2 - lo)
        case measure => omega
        case rel => exact ⟨lo, (lo + hi) / 2, rfl, by rw [show ((lo : Int) + (hi : Int)) / 2 = (((lo + hi) / 2 : Nat) : Int) by omega], by omega, by omega, Nat.le_refl _, hbw, I2.out⟩
    · obtain rfl : hi = lo := by omega
      have SE := Lib.hid (srchN_end HS.out hin I.out.1 I.out.2)
      by_cases hn : hi < l.length
      · obtain ⟨b, o, rfl, hb, hcl⟩ := HA.out (by omega)
        obtain ⟨c1, c2, c3, c4, c5, c6⟩ := (hcl _ hn).below hbw hb
        clear hcl
        have SH : Hid (hasN l n = (l[hi].ino == n)) := by (show _ = _); rw [SE.out.2, dif_pos hn]
        generalize hy : l[hi] = y at c1 c2 c3 c4 c5 c6 SH
        clear hy
        have CM := Lib.hid (cmpI_eq y.ino n)
        go_wp2_with fail
        refine (holdN_any y n _).mono ?_
        rintro e w2 ⟨rfl, b2⟩
        replace hbw := hbw.trans (b2.mono hbw.size)
        go_wp2
        go_ret2
        exact ⟨hi, by rw [SH.out, ← CM.out]; rfl, SE.out.1, hbw⟩
      · have SH : Hid (hasN l n = false) := by (show _ = _); rw [SE.out.2, dif_neg hn]
        go_wp2
        go_ret2
        exact ⟨hi, by rw [SH.out]; rfl, SE.out.1, hbw⟩

theorem searchN_any (l : List Nd) (n : Int) (v : Value) (w : World) (hv : Nds w v l) (hs : riseP l) (hl : l.length ≤ 1000000) :
    Calls Tryz.prog 69 #[v, .int .i64 n] w fun e w' =>
      ∃ lo : Nat, e = .returned (.tuple #[.int .i64 lo, .bool (hasN l n)]) ∧ SrchN l n lo ∧ Below w.heap.size w w' := by
  obtain ⟨a, ca, rfl, hc, hm, HA0⟩ := id hv
  clear HA0
  go_enter Tryz.func69, Tryz.ntmps69
  go_wp2_with fail; refine (halvesN_any l n _ _ hv hs hl).mono ?_; rintro e w1 ⟨lo, rfl, hS, hb⟩
  go_wp2
  go_ret2
  exact ⟨lo, rfl, hS, hb⟩
end Go.Proofs.YtdgedcfenpmaoaaGreat

/- Walks: slices.Grow from nil, slices.Concat. -/
set_option linter.unusedVariables false
set_option linter.unusedSimpArgs false
namespace Go.Proofs.YtdgedcfenpmaoaaGreat
open Go.RowKit

theorem infoN : (Tryz.prog.info? 42).map (fun i => (i.zero, i.size, i.bytes)) = some (some (.agg #[.int .i64 0, .int .i64 0, .int .i64 0, .string ⟨#[]⟩, .int .i64 0, .slice none 0 0]), 6, 72) := by kernel_rfl

/-- 'append(s, x...)' onto what is the call's own, whatever slice x is. -/
theorem wpList_append_any {P : Program} {w : World} {ops : Array Oper} {rest : List Oper} {o : Oper} {a : Act} {Q : Exit → Act → World → Prop} (hgd : o.guard = none) (s x : Operand) (t e : TypeId)
    (ho : o.op = .call { callee := .builtin .append, args := #[s, x], argTypes := #[t, t] })
    {i : TypeInfo} {z : Value} {size bytes : Nat} (ht : P.underlying t = some (.slice e)) (hi : P.info? e = some i) (hz : i.zero = some z)
    (hsize : i.size = size) (hby : i.bytes = bytes) (hzs : z.cells.size = size) (hsz : 0 < size) (hbs : bytes ≤ 128)
    (base : Nat) {v : Value} {n : Nat} {xs : List Value} (ao : Option Addr) (m c : Nat) (news : List Value) (hs : a.eval s = v) (hx : a.eval x = .slice ao m c) (hown : w.ownsRow base e size v n xs) (hnone : ao = none → m = 0 ∧ c = 0)
    (hm : news.length = m * size) (hc : ∀ ad, ao = some ad → ∀ j u, news[j]? = some u → w.cell? (ad.add j) = some u) (h1 : ∀ u ∈ news, u.oneCell' = true) (hb : n + m ≤ 1099511627776) (hbase : base ≤ w.heap.size)
    (hK : ∀ v' w', w'.ownsRow base e size v' (n + m) (xs ++ news) → Below base w w' → wpList P ops Q rest (a.put o.dst v') w') :
    wpList P ops Q (o :: rest) a w := by
  cases ao with
  | some ad =>
    refine wpList_append_own _ hgd s x t ho base e i z size bytes ht hi hz hsize hby hzs hsz v n xs hs hown ad m c news hx hm (hc ad rfl) h1 (by unfold maxLen; omega) ?_ hbase ?_
    · calc (n + m) * bytes ≤ 1099511627776 * 128 := Nat.mul_le_mul hb hbs
        _ ≤ 140737488355328 := by decide
    · intro v' w' h2 h3 _
      exact hK v' w' h2 (own_below hown h3 hbase)
  | none =>
    obtain ⟨rfl, rfl⟩ := hnone rfl
    have hnews : news = [] := List.eq_nil_of_length_eq_zero (by simpa using hm)
    subst hnews
    refine wpList_plain hgd fun K hK' => ?_
    have hrun := run_append_owned_none (P := P) w base t o.type e i size ht hi _ n xs hown
    unfold Oper.wp
    simp [execOp, ho, resolve, invoke, builtin, hs, hx, hrun, Result.andThen]
    exact hK' _ _ (by simpa using hK v w (by simpa using hown) (Below.refl _ _))

/-- The same as one step of a region that draws its order. -/
theorem step_append_any {P : Program} {w : World} {ops : Array Oper} {o : Oper} {a : Act} {K : Act → World → Prop} {Q : Exit → Act → World → Prop} {E : Prop} (hgd : o.guard = none) (s x : Operand) (t e : TypeId)
    (ho : o.op = .call { callee := .builtin .append, args := #[s, x], argTypes := #[t, t] })
    {i : TypeInfo} {z : Value} {size bytes : Nat} (ht : P.underlying t = some (.slice e)) (hi : P.info? e = some i) (hz : i.zero = some z)
    (hsize : i.size = size) (hby : i.bytes = bytes) (hzs : z.cells.size = size) (hsz : 0 < size) (hbs : bytes ≤ 128)
    (base : Nat) {v : Value} {n : Nat} {xs : List Value} (ao : Option Addr) (m c : Nat) (news : List Value) (hs : a.eval s = v) (hx : a.eval x = .slice ao m c) (hown : w.ownsRow base e size v n xs) (hnone : ao = none → m = 0 ∧ c = 0)
    (hm : news.length = m * size) (hc : ∀ ad, ao = some ad → ∀ j u, news[j]? = some u → w.cell? (ad.add j) = some u) (h1 : ∀ u ∈ news, u.oneCell' = true) (hb : n + m ≤ 1099511627776) (hbase : base ≤ w.heap.size)
    (hK : ∀ v' w', w'.ownsRow base e size v' (n + m) (xs ++ news) → Below base w w' → K (a.put o.dst v') w') :
    if Region.wanted o (yielded ops a.tmps) = true then Oper.wp P o a w K Q else E := by
  rw [if_pos (by simp [Region.wanted, hgd])]
  cases ao with
  | some ad =>
    refine wp_append_own w s x t ho base e i z size bytes ht hi hz hsize hby hzs hsz v n xs hs hown ad m c news hx hm (hc ad rfl) h1 (by unfold maxLen; omega) ?_ hbase ?_
    · calc (n + m) * bytes ≤ 1099511627776 * 128 := Nat.mul_le_mul hb hbs
        _ ≤ 140737488355328 := by decide
    · intro v' w' h2 h3 _
      exact hK v' w' h2 (own_below hown h3 hbase)
  | none =>
    obtain ⟨rfl, rfl⟩ := hnone rfl
    have hnews : news = [] := List.eq_nil_of_length_eq_zero (by simpa using hm)
    subst hnews
    have hrun := run_append_owned_none (P := P) w base t o.type e i size ht hi _ n xs hown
    unfold Oper.wp
    simp [execOp, ho, resolve, invoke, builtin, hs, hx, hrun, Result.andThen]
    exact hK v w (by simpa using hown) (Below.refl _ _)

/-- A slice of slices of inodes. -/
def PartsN (w : World) (v : Value) (ps : List (List Nd)) : Prop :=
  ∃ a cap, v = .slice a ps.length cap ∧ (0 < ps.length → ∃ b off, a = some ⟨b, off, none⟩ ∧ b < w.heap.size ∧ ∀ i (h : i < ps.length), ∃ x, w.cell? ⟨b, off + i, none⟩ = some x ∧ Nds w x ps[i])

theorem flatP_take (ps : List (List Nd)) (k : Nat) (h : k < ps.length) : (ps.take (k + 1)).flatten = (ps.take k).flatten ++ ps[k] := by
  rw [List.take_succ_eq_append_getElem h, List.flatten_append]; simp
def flatK (ps : List (List Nd)) (k : Nat) : Nat := (ps.take k).flatten.length
theorem flatK_next {ps : List (List Nd)} {k : Nat} (h : k < ps.length) : flatK ps (k + 1) = flatK ps k + ps[k].length := by
  unfold flatK; rw [flatP_take ps k h, List.length_append]
theorem flatK_le (ps : List (List Nd)) (k : Nat) : flatK ps k ≤ ps.flatten.length := by
  unfold flatK; conv => rhs; rw [← List.take_append_drop k ps, List.flatten_append, List.length_append]
  omega
theorem flatK_end (ps : List (List Nd)) : flatK ps ps.length = ps.flatten.length := by unfold flatK; rw [List.take_length]

set_option maxRecDepth 100000 in
set_option maxHeartbeats 2000000 in
theorem GrowN_any (n : Nat) (hn : n ≤ 1000000) (w : World) :
    Calls Tryz.prog 110 #[.slice none 0 0, .int .i64 n] w fun e w' => ∃ v, e = .returned v ∧ w'.ownsRow w.heap.size 42 6 v 0 [] ∧ Below w.heap.size w w' := by
  by_cases h0 : n = 0
  · subst h0
    go_enter Tryz.func110, Tryz.ntmps110
    go_wp2
    go_ret
    exact ⟨_, rfl, World.ownsRow_nil _ _ _ _, Below.refl _ _⟩
  · obtain ⟨i0, hi, hz0, hz1, hz2⟩ := info_parts infoN
    have hpos : (0 : Int) < (n : Int) := by omega
    have hrz : ∀ ty, (Builtin.append_ #[22, 3] ty #[.slice none 0 0, .int .i64 (n : Int)]).run Tryz.prog w =
        .ok (.slice (some ⟨w.heap.size, 0, none⟩) n (grownCap w n 0 42)) (w.drew.alloc (.cells (#[] ++ Builtin.zeroCells (Value.agg #[.int .i64 0, .int .i64 0, .int .i64 0, .string ⟨#[]⟩, .int .i64 0, .slice none 0 0]).cells n ++ Builtin.zeroCells (Value.agg #[.int .i64 0, .int .i64 0, .int .i64 0, .string ⟨#[]⟩, .int .i64 0, .slice none 0 0]).cells (grownCap w n 0 42 - n)) 42)) := fun ty => by
      have h := Lib.run_append_grow_zeros (P := Tryz.prog) w 22 3 ty 42 i0 _ .i64 .i64 Tryz.underlying22 Tryz.underlying3 hi hz0 none 0 0 [] (run_firstCells_none w.drew i0.size 0 0 0) n (by omega) (by rw [hz1]; decide) (by omega) (by omega)
        (by rw [hz2]; omega) (growslice_fits (by omega) (by rw [hz2]; omega))
      simpa using h
    have hGn : n ≤ grownCap w n 0 42 := grownCap_ge w _ _ _
    have hGm := grownCap_le_maxLen w n 0 42 (by unfold maxLen; omega)
    generalize grownCap w n 0 42 = G at hrz hGn hGm
    generalize hC : (#[] ++ Builtin.zeroCells (Value.agg #[.int .i64 0, .int .i64 0, .int .i64 0, .string ⟨#[]⟩, .int .i64 0, .slice none 0 0]).cells n ++ Builtin.zeroCells (Value.agg #[.int .i64 0, .int .i64 0, .int .i64 0, .string ⟨#[]⟩, .int .i64 0, .slice none 0 0]).cells (G - n)) = C at hrz
    have hCs : C.size = G * 6 := by
      have e6 : (Value.agg #[.int .i64 0, .int .i64 0, .int .i64 0, .string ⟨#[]⟩, .int .i64 0, .slice none 0 0]).cells.size = 6 := rfl
      rw [← hC, Array.size_append, Array.size_append, size_zeroCells, size_zeroCells, e6]
      simp; omega
    clear hC
    have hG63 : G ≤ 9223372036854775807 := by unfold maxLen at hGm; omega
    go_enter Tryz.func110, Tryz.ntmps110
    go_wp2_with (at_builtin; refine Lib.wpList_append_run _ rfl _ _ _ _ rfl _ _ rfl rfl _ _ (hrz _) ?_)
    all_goals (go_ret; exact ⟨_, rfl, World.ownsRow_made w.drew C G (Nat.le_refl _) hGm hCs, (Below.refl _ w).drew.alloc (Nat.le_refl _) _⟩)

/-- What is new: an owned row of inodes. -/
def NewNds (w : World) (L : List Nd) (v : Value) (w' : World) : Prop := w'.ownsRow w.heap.size 42 6 v L.length (ndsV L) ∧ Below w.heap.size w w'

set_option maxHeartbeats 4000000 in
theorem ConcatN_any (ps : List (List Nd)) (v : Value) (w : World) (hv : PartsN w v ps) (hp : ps.length ≤ 1000000) (hn : ps.flatten.length ≤ 1000000) :
    Calls Tryz.prog 95 #[v] w fun e w' => ∃ x, e = .returned x ∧ NewNds w ps.flatten x w' := by
  obtain ⟨a, ca, rfl, HA0⟩ := hv
  have HA := Lib.hid HA0
  clear HA0
  obtain ⟨i0, hi, hz0, hz1, hz2⟩ := info_parts infoN
  have hle := flatK_le ps
  have hend := flatK_end ps
  generalize hF : ps.flatten = F at *
  have HF := Lib.hid hF
  clear hF
  go_enter Tryz.func95, Tryz.ntmps95
  go_wp2
  go_loop [3, 11] (fun s3 s11 => ∃ k : Nat, k ≤ ps.length ∧ s11 = .int .i64 k ∧ s3 = .int .i64 (flatK ps k)) (fun _ s11 => ps.length - (intOf s11).toNat)
  case atStart => exact ⟨0, Nat.zero_le _, rfl, rfl⟩
  case round =>
    obtain ⟨k, hk, rfl, rfl⟩ := hrel
    by_cases hlt : k < ps.length
    · obtain ⟨b, o, rfl, hb, hcl⟩ := HA.out (by omega)
      obtain ⟨x, c1, ⟨ax, cx, rfl, hx1, hx2, hx3⟩⟩ := hcl k hlt
      clear hcl hx3 hx1 hx2
      have hf1 := hle (k + 1)
      have HN := Lib.hid (flatK_next hlt)
      have hfl : flatK ps k + ps[k].length ≤ 1000000 := by rw [HN.out] at hf1; omega
      have hng : ¬ ((flatK ps k : Int) + (ps[k].length : Int) < 0) := by omega
      go_wp2
      go_round
      case rel => exact ⟨k + 1, by omega, by go_num, by rw [HN.out]; go_num⟩
      case measure => simp [intOf]; omega
    · obtain rfl : k = ps.length := by omega
      rw [hend]
      go_wp2_with fail; refine (GrowN_any F.length hn _).mono ?_; rintro e w1 ⟨vg, rfl, hown, hb1⟩
      have HO := Lib.hid hown
      clear hown
      go_wp2
      go_loopw [6, 27] (fun s6 s27 wr => ∃ k : Nat, k ≤ ps.length ∧ s27 = .int .i64 k ∧ Below w.heap.size w wr ∧ Aside (wr.ownsRow w.heap.size 42 6 s6 (flatK ps k) (ndsV (ps.take k).flatten))) (fun _ s27 _ => ps.length - (intOf s27).toNat)
      case atStart => exact ⟨0, Nat.zero_le _, rfl, hb1, by (show World.ownsRow _ _ _ _ _ _ _); simpa [flatK, ndsV] using HO.out⟩
      case round =>
        clear HO hb1
        obtain ⟨k, hk, rfl, hbw, HO⟩ := hrel
        by_cases hlt : k < ps.length
        · obtain ⟨b, o, rfl, hb, hcl⟩ := HA.out (by omega)
          obtain ⟨x, c0, hx⟩ := hcl k hlt
          have c1 : wr.cell? ⟨b, o + k, none⟩ = some x := (hbw.cell (p := ⟨b, o + k, none⟩) hb).trans c0
          clear hcl c0
          have hxs := hx.below hbw
          obtain ⟨ax, cx, rfl, hx1, hx2, hx4, hx0, hx3⟩ := id hx
          clear hx3 hx1 hx2 hx4 hx
          have hf1 := hle (k + 1)
          have HN := Lib.hid (flatK_next hlt)
          have hfl : flatK ps k + ps[k].length ≤ F.length := by rw [HN.out] at hf1; omega
          have HFT := Lib.hid (flatP_take ps k hlt)
          have HX0 : Hid (ax = none → ps[k].length = 0 ∧ cx = 0) := by
            intro h
            refine ⟨?_, hx0 h⟩
            obtain ⟨_, _, e, hc1, _⟩ := hxs
            simp only [Value.slice.injEq] at e
            obtain ⟨rfl, _, rfl⟩ := e
            have := hx0 h
            omega
          have HXS := Lib.hid hxs
          have hsz := hbw.size
          clear hxs hx0
          go_wp2_with (at_builtin; refine wpList_append_any rfl (.tmp 31) (.tmp 32) 22 42 rfl Tryz.underlying22 hi hz0 hz1 hz2 rfl (by decide) (by decide) w.heap.size ax ps[k].length cx (ndsV ps[k]) rfl rfl HO.out HX0.out (ndsV_len _) HXS.out.src (ndsV_one HXS.out.all) (by omega) hsz ?_; intro v2 w2 hown2 hb2)
          have HO2 : Hid (w2.ownsRow w.heap.size 42 6 v2 (flatK ps (k + 1)) (ndsV (ps.take (k + 1)).flatten)) := by
            (show World.ownsRow _ _ _ _ _ _ _); rw [HN.out, HFT.out, ndsV_append]; exact hown2
          have hb3 := hbw.trans hb2
          clear hown2 hb2
          go_roundw
          case rel => exact ⟨k + 1, by omega, by go_num, hb3, HO2.out⟩
          case measure => simp [intOf]; omega
        · obtain rfl : k = ps.length := by omega
          have h1 := HO.out
          rw [hend, List.take_length, HF.out] at h1
          have HBF := Lib.hid h1
          clear h1
          clear HO
          go_wp2
          go_ret
          exact ⟨_, rfl, HBF.out, hbw⟩
end Go.Proofs.YtdgedcfenpmaoaaGreat

/- Walks: strings.Clone at any length, holding. -/
set_option linter.unusedVariables false
set_option linter.unusedSimpArgs false
namespace Go.Proofs.YtdgedcfenpmaoaaGreat
open Go.RowKit

theorem CloneN_any (l : List UInt8) (w : World) (hl : l.length ≤ 281474976710656) :
    Calls Tryz.prog 62 #[.string ⟨l.toArray⟩] w fun e w' => e = .returned (.string ⟨l.toArray⟩) ∧ Below w.heap.size w w' := by
  go_enter Tryz.func62, Tryz.ntmps62
  go_wp2_with fail
  refine (Tryz.stringslite_Clone _ _ (by simp [ByteArray.size]; omega)).mono ?_
  rintro e w' ⟨rfl, hB⟩
  go_wp2
  go_ret
  exact ⟨rfl, hB⟩

/-- A table's cells. -/
abbrev fsC (mi mb nx : Int) (v : Value) : Array Value := #[.int .i64 mi, .int .i64 mb, .int .i64 nx, v]

theorem own_base {w : World} {base base' : Nat} {e : TypeId} {size : Nat} {v : Value} {n : Nat} {xs : List Value} (h : w.ownsRow base e size v n xs) (hb : base' ≤ base) : w.ownsRow base' e size v n xs := by
  refine ⟨h.1, ?_⟩
  rcases h.2 with h2 | ⟨g, cap, cur, hv, hg, r⟩
  · exact .inl h2
  · exact .inr ⟨g, cap, cur, hv, Nat.le_trans hb hg, r⟩
/-- An owned row: nil, or a block. -/
theorem own_cases {w : World} {base : Nat} {e : TypeId} {size : Nat} {v : Value} {n : Nat} {xs : List Value} (h : w.ownsRow base e size v n xs) :
    (v = .slice none 0 0 ∧ n = 0 ∧ xs = []) ∨ ∃ g cap, v = .slice (some ⟨g, 0, none⟩) n cap ∧ base ≤ g ∧ g < w.heap.size ∧ n ≤ cap ∧ cap ≤ maxLen := by
  rcases h.2 with ⟨rfl, rfl⟩ | ⟨g, cap, cur, rfl, hg, hh, hnc, hcm, _⟩
  · exact .inl ⟨rfl, rfl, List.eq_nil_of_length_eq_zero (by simpa using h.1)⟩
  · exact .inr ⟨g, cap, rfl, hg, (Array.getElem?_eq_some_iff.1 hh).1, hnc, hcm⟩
/-- A cell of an owned row set to what it holds. -/
theorem own_set_same {w : World} {base : Nat} {e : TypeId} {size g cap n : Nat} {xs : List Value} (h : w.ownsRow base e size (.slice (some ⟨g, 0, none⟩) n cap) n xs) {j : Nat} {u : Value} (hj : xs[j]? = some u) :
    (w.setCell ⟨g, j, none⟩ u).ownsRow base e size (.slice (some ⟨g, 0, none⟩) n cap) n xs ∧ w.grownBy (w.setCell ⟨g, j, none⟩ u) (some g) := by
  have h2 := h.stored j u
  have e1 : xs.set j u = xs := by
    apply List.ext_getElem?
    intro i
    rw [List.getElem?_set]
    split
    · rename_i e; subst e
      split
      · exact hj.symm
      · rename_i hh; rw [List.getElem?_eq_none (by omega)]
    · rfl
  simpa [e1] using h2
theorem own_at {w : World} {base : Nat} {e : TypeId} {g cap : Nat} {L : List Nd} (h : w.ownsRow base e 6 (.slice (some ⟨g, 0, none⟩) L.length cap) L.length (ndsV L)) {k : Nat} (hk : k < L.length) : NdAt w g (k * 6) L[k] := by
  have hat := ndsV_at L k hk
  have c := fun j (hj : j < L.length * 6) => h.cellAt j hj
  exact ⟨(c _ (by omega)).trans hat.1, (c _ (by omega)).trans hat.2.1, (c _ (by omega)).trans hat.2.2.1, (c _ (by omega)).trans hat.2.2.2.1, (c _ (by omega)).trans hat.2.2.2.2.1, (c _ (by omega)).trans hat.2.2.2.2.2⟩
/-- A block of four cells: what a walk asks of it. -/
theorem Blk.four {W : World} {B : Nat} {t : TypeId} {a b c d : Value} (h : Blk W B t #[a, b, c, d]) :
    (W.cell? ⟨B, 0, none⟩ = some a ∧ W.cell? ⟨B, 1, none⟩ = some b ∧ W.cell? ⟨B, 2, none⟩ = some c ∧ W.cell? ⟨B, 3, none⟩ = some d) ∧
      (W.frozen? ⟨B, 0, none⟩ = false ∧ W.frozen? ⟨B, 1, none⟩ = false ∧ W.frozen? ⟨B, 2, none⟩ = false ∧ W.frozen? ⟨B, 3, none⟩ = false) :=
  ⟨⟨(h.cell 0).trans rfl, (h.cell 1).trans rfl, (h.cell 2).trans rfl, (h.cell 3).trans rfl⟩, h.frozen 0, h.frozen 1, h.frozen 2, h.frozen 3⟩
/-- A struct of four cells stored whole. -/
theorem Blk.put4 {W : World} {B : Nat} {t : TypeId} {a b c d : Value} (h : Blk W B t #[a, b, c, d]) (p q r s : Value) :
    ∃ W', (((W.setCell ⟨B, 0, none⟩ p).setCell ⟨B, 1, none⟩ q).setCell ⟨B, 2, none⟩ r).setCell ⟨B, 3, none⟩ s = W' ∧ Blk W' B t #[p, q, r, s] ∧ W.grownBy W' (some B) := by
  refine ⟨_, rfl, ?_, ?_⟩
  · exact (((h.set 0 p).set 1 q).set 2 r).set 3 s
  · exact (((grownBy_set W B 0 p).trans (grownBy_set _ B 1 q)).trans (grownBy_set _ B 2 r)).trans (grownBy_set _ B 3 s)
theorem below_grown {n : Nat} {w0 W W' : World} {B : Nat} (h : Below n w0 W) (hg : W.grownBy W' (some B)) (hn : n ≤ w0.heap.size) (hB : n ≤ B) : Below n w0 W' := h.grown hg (Nat.le_trans hn h.size) (fun k hk => by cases hk; exact hB)
/-- A block of six cells: what a walk asks of it. -/
def Six (W : World) (B : Nat) (x : Nd) : Prop := W.cell? ⟨B, 0, none⟩ = some (.int .i64 x.ino) ∧ W.cell? ⟨B, 1, none⟩ = some (.int .i64 x.kind) ∧ W.cell? ⟨B, 2, none⟩ = some (.int .i64 x.links) ∧
  W.cell? ⟨B, 3, none⟩ = some (.string ⟨x.data.toArray⟩) ∧ W.cell? ⟨B, 4, none⟩ = some (.int .i64 x.parent) ∧ W.cell? ⟨B, 5, none⟩ = some x.ev
theorem Blk.six {W : World} {B : Nat} {t : TypeId} {x : Nd} (h : Blk W B t (ndC x)) :
    Six W B x ∧ (W.frozen? ⟨B, 0, none⟩ = false ∧ W.frozen? ⟨B, 1, none⟩ = false ∧ W.frozen? ⟨B, 2, none⟩ = false ∧ W.frozen? ⟨B, 3, none⟩ = false ∧ W.frozen? ⟨B, 4, none⟩ = false ∧ W.frozen? ⟨B, 5, none⟩ = false) :=
  ⟨⟨(h.cell 0).trans rfl, (h.cell 1).trans rfl, (h.cell 2).trans rfl, (h.cell 3).trans rfl, (h.cell 4).trans rfl, (h.cell 5).trans rfl⟩, h.frozen 0, h.frozen 1, h.frozen 2, h.frozen 3, h.frozen 4, h.frozen 5⟩

theorem PartsN.below {w w' : World} {v : Value} {ps : List (List Nd)} (h : PartsN w v ps) (hb : Below w.heap.size w w') : PartsN w' v ps := by
  obtain ⟨a, cap, rfl, h1⟩ := h
  refine ⟨a, cap, rfl, fun hl => ?_⟩
  obtain ⟨b, off, rfl, hlt, hx⟩ := h1 hl
  refine ⟨b, off, rfl, Nat.lt_of_lt_of_le hlt hb.size, fun i hi => ?_⟩
  obtain ⟨x, hc, hn⟩ := hx i hi
  exact ⟨x, (hb.cell (p := ⟨b, off + i, none⟩) hlt).trans hc, hn.below hb⟩

set_option maxHeartbeats 4000000 in
theorem holding_any (mi mb nx : Int) (fv : Value) (ps : List (List Nd)) (v : Value) (w : World) (hv : PartsN w v ps) (hp : ps.length ≤ 1000000) (hn : ps.flatten.length ≤ 1000000) (hd : ∀ x ∈ ps.flatten, x.data.length ≤ 281474976710656) :
    Calls Tryz.prog 72 #[.agg (fsC mi mb nx fv), v] w fun e w' => ∃ x, e = .returned (.agg (fsC mi mb nx x)) ∧ NewNds w ps.flatten x w' := by
  have hev : ∀ x ∈ ps.flatten, ∃ a n c, x.ev = .slice a n c := by
    obtain ⟨_, _, _, h1⟩ := hv
    intro x hx
    obtain ⟨l, hl, hxl⟩ := List.mem_flatten.1 hx
    obtain ⟨i, hi, rfl⟩ := List.getElem_of_mem hl
    obtain ⟨_, _, _, _, h2⟩ := h1 (by omega)
    obtain ⟨_, _, h3⟩ := h2 i hi
    obtain ⟨a, c, h4, _⟩ := h3.all x hxl
    exact ⟨_, _, _, h4⟩
  have b0 := Blk.new w 24 (fsC mi mb nx fv)
  have b1 := Blk.new (w.alloc (.cells (fsC mi mb nx fv) 24)) 24 (fsC 0 0 0 (.slice none 0 0))
  have b0' := b0.alloc (.cells (fsC 0 0 0 (.slice none 0 0)) 24)
  have hB0 : Below w.heap.size w ((w.alloc (.cells (fsC mi mb nx fv) 24)).alloc (.cells (fsC 0 0 0 (.slice none 0 0)) 24)) := ((Below.refl _ w).alloc (Nat.le_refl _) _).alloc (by simp) _
  have hP := hv.below hB0
  have HC := ConcatN_any ps _ _ hP hp hn
  generalize ps.flatten = L at *
  clear b0 hP
  go_enter Tryz.func72, Tryz.ntmps72
  go_wp2_with fail
  refine HC.mono ?_
  rintro e w1 ⟨x, rfl, hown, hb1⟩
  clear HC
  simp only [World.size_alloc] at b1
  replace b0' := b0'.next hb1
  replace b1 := b1.next hb1
  have hown1 := own_base hown (base' := w.heap.size) (by simp; omega)
  replace hB0 := hB0.trans (hb1.mono hB0.size)
  have hlt1 : w.heap.size + 2 ≤ w1.heap.size := by have := hb1.size; simp at this; omega
  have hgb : ∀ g, x.ownBlock = some g → w.heap.size + 2 ≤ g := fun g hg => by have := (hown.lt g hg).1; simp at this; omega
  clear hown hb1
  have c3 := b0'.cell 3
  have f3 := b0'.frozen 3
  simp [fsC] at c3
  have HL := Lib.hid hd
  have HEV := Lib.hid hev
  clear hd hev
  have b2 := b0'.set 3 x
  rw [show (fsC mi mb nx fv).setIfInBounds 3 x = fsC mi mb nx x from rfl] at b2
  have b3 := b1.other (B2 := w.heap.size) (i := 3) (by omega) x
  have hB3 := hB0.setCell (p := ⟨w.heap.size, 3, none⟩) (Nat.le_refl _) x
  have hown3 := hown1.kept (grownBy_set w1 w.heap.size 3 x) (by
    rcases own_cases hown1 with ⟨rfl, _⟩ | ⟨g, cap, rfl, _⟩
    · exact .inl rfl
    · exact .inr (by have := hgb g rfl; simp [Value.ownBlock]; omega))
  clear b0' b1 hB0
  rcases own_cases hown1 with ⟨rfl, hL0, _⟩ | ⟨g, cap, rfl, hwg, hg1, hLc, hcm⟩
  · clear hown1 hgb
    generalize hw3 : w1.setCell ⟨w.heap.size, 3, none⟩ (.slice none 0 0) = w3 at *
    have H3 := Lib.hid (show _ ∧ _ ∧ _ ∧ _ from ⟨b2, b3, hB3, hown3⟩)
    obtain ⟨⟨p0, p1, p2, p3⟩, _⟩ := b2.four
    obtain ⟨⟨q0, q1, q2, q3⟩, e0, e1, e2, e3⟩ := b3.four
    clear b2 b3 hB3 hown3
    go_wp2
    clear hw3
    go_loopg [13] 0 (fun g s13 wr => s13 = .int .i64 0 ∧ wr = w3)
    case atStart => exact ⟨rfl, rfl⟩
    case round =>
      obtain ⟨rfl, rfl⟩ := hrel
      obtain ⟨b2, b3, hB3, hown3⟩ := H3.out
      obtain ⟨W', hW', hb4, hg4⟩ := b3.put4 (.int .i64 mi) (.int .i64 mb) (.int .i64 nx) (.slice none 0 0)
      have hbl := below_grown hB3 hg4 (Nat.le_refl _) (by omega)
      have hown4 := hown3.kept hg4 (.inl rfl)
      clear b2 b3 hB3 hown3 hg4
      go_wp2
      obtain ⟨⟨r0, r1, r2, r3⟩, _⟩ := hb4.four
      clear hW' hb4 p0 p1 p2 p3 q0 q1 q2 q3 e0 e1 e2 e3
      refine bodyPost_ret (v := .agg (fsC mi mb nx (.slice none 0 0))) (by simp [results, Tryz.f72, go_sem, r0, r1, r2, r3]) rfl ?_
      exact ⟨_, rfl, hown4, hbl⟩
  · have hg2 := hgb g rfl
    clear hown1 hgb
    generalize hw3 : w1.setCell ⟨w.heap.size, 3, none⟩ (.slice (some ⟨g, 0, none⟩) L.length cap) = w3 at *
    have H3 := Lib.hid (show _ ∧ _ ∧ _ ∧ _ from ⟨b2, b3, hB3, hown3⟩)
    obtain ⟨⟨p0, p1, p2, p3⟩, _⟩ := b2.four
    clear b2 b3 hB3 hown3 hg1
    unfold maxLen at hcm
    go_wp2
    clear hw3 p0 p1 p2 p3
    go_loopg [13] L.length (fun G s13 wr => ∃ k : Nat, k + G = L.length ∧ s13 = .int .i64 k ∧ Below w.heap.size w wr ∧ Aside (Blk wr w.heap.size 24 (fsC mi mb nx (.slice (some ⟨g, 0, none⟩) L.length cap))) ∧ Aside (Blk wr (w.heap.size + 1) 24 (fsC 0 0 0 (.slice none 0 0))) ∧ Aside (wr.ownsRow w.heap.size 42 6 (.slice (some ⟨g, 0, none⟩) L.length cap) L.length (ndsV L)))
    case atStart => exact ⟨0, by omega, rfl, H3.out.2.2.1, H3.out.1, H3.out.2.1, H3.out.2.2.2⟩
    case round =>
      obtain ⟨k, hkg, rfl, hbw, HB2, HB3, HO⟩ := hrel
      by_cases hlt : k < L.length
      · obtain ⟨G, rfl⟩ : ∃ G, gk = G + 1 := ⟨gk - 1, by omega⟩
        obtain ⟨c0, c1, c2, c3, c4, c5⟩ := own_at HO.out hlt
        have hat := (ndsV_at L k hlt).2.2.2.1
        have hyd := HL.out _ (List.getElem_mem hlt)
        obtain ⟨ae, ne, ce, hye⟩ := HEV.out _ (List.getElem_mem hlt)
        rw [hye] at c5
        generalize L[k].data = yd at *
        generalize L[k].ino = y0 at *
        generalize L[k].kind = y1 at *
        generalize L[k].links = y2 at *
        generalize L[k].parent = y4 at *
        have HAT := Lib.hid hat
        have x1 := Blk.new wr 42 #[.int .i64 y0, .int .i64 y1, .int .i64 y2, .string ⟨yd.toArray⟩, .int .i64 y4, .slice ae ne ce]
        have hb5 : Below w.heap.size w (wr.alloc (.cells #[.int .i64 y0, .int .i64 y1, .int .i64 y2, .string ⟨yd.toArray⟩, .int .i64 y4, .slice ae ne ce] 42)) := hbw.alloc (Nat.le_trans hbw.size (Nat.le_refl _)) _
        have B2 := HB2.out.alloc (.cells #[.int .i64 y0, .int .i64 y1, .int .i64 y2, .string ⟨yd.toArray⟩, .int .i64 y4, .slice ae ne ce] 42)
        have B3 := HB3.out.alloc (.cells #[.int .i64 y0, .int .i64 y1, .int .i64 y2, .string ⟨yd.toArray⟩, .int .i64 y4, .slice ae ne ce] 42)
        have O5 := HO.out.alloc (.cells #[.int .i64 y0, .int .i64 y1, .int .i64 y2, .string ⟨yd.toArray⟩, .int .i64 y4, .slice ae ne ce] 42)
        have p3 := B2.four.1.2.2.2
        have k3 := (x1.cell 3).trans (rfl : _ = some (Value.string ⟨yd.toArray⟩))
        clear HB2 HB3 HO hbw hat hye
        have k0 : (0 : Int) ≤ (k : Int) := by omega
        have k1 : (k : Int) < (L.length : Int) := by omega
        have hk6 : k * 6 + 3 < L.length * 6 := by omega
        generalize hwa : wr.alloc (.cells #[.int .i64 y0, .int .i64 y1, .int .i64 y2, .string ⟨yd.toArray⟩, .int .i64 y4, .slice ae ne ce] 42) = wa at *
        have O6 : wa.drew.ownsRow w.heap.size 42 6 (.slice (some ⟨g, 0, none⟩) L.length cap) L.length (ndsV L) := O5
        have B4 : Blk wa.drew w.heap.size 24 (fsC mi mb nx (.slice (some ⟨g, 0, none⟩) L.length cap)) := B2
        have B5 : Blk wa.drew (w.heap.size + 1) 24 (fsC 0 0 0 (.slice none 0 0)) := B3
        have hb6 : Below w.heap.size w wa.drew := hb5.drew
        clear O5 B2 B3 hb5 x1
        go_upto_region 5 with fail
        go_region_with (go_at_call 62; refine (CloneN_any yd _ hyd).mono ?_; rintro e w5 ⟨rfl, b5⟩; have O7 := own_keep O6 b5; have q3 := (O7.cellAt (k * 6 + 3) hk6).trans HAT.out; have qf := O7.frozenAt (k * 6 + 3); have p5 := (B4.next b5).four.1.2.2.2)
        all_goals (go_wp2; go_roundg G)
        all_goals first | omega | exact ⟨k + 1, by omega, by go_num, (hb6.trans (b5.mono hb6.size)).setCell hwg _, (B4.next b5).other (B2 := g) (i := k * 6 + 3) (by omega) _, (B5.next b5).other (B2 := g) (i := k * 6 + 3) (by omega) _, (own_set_same O7 HAT.out).1⟩
      · obtain rfl : k = L.length := by omega
        obtain ⟨⟨p0, p1, p2, p3⟩, _⟩ := HB2.out.four
        obtain ⟨⟨q0, q1, q2, q3⟩, e0, e1, e2, e3⟩ := HB3.out.four
        obtain ⟨W', hW', hb4, hg4⟩ := HB3.out.put4 (.int .i64 mi) (.int .i64 mb) (.int .i64 nx) (.slice (some ⟨g, 0, none⟩) L.length cap)
        have hbl := below_grown hbw hg4 (Nat.le_refl _) (by omega)
        have hown4 := HO.out.kept hg4 (.inr (by simp [Value.ownBlock]; omega))
        clear HB2 HB3 HO hbw hg4
        go_wp2
        obtain ⟨⟨r0, r1, r2, r3⟩, _⟩ := hb4.four
        clear hW' hb4 p0 p1 p2 p3 q0 q1 q2 q3 e0 e1 e2 e3
        refine bodyPost_ret (v := .agg (fsC mi mb nx (.slice (some ⟨g, 0, none⟩) L.length cap))) (by simp [results, Tryz.f72, go_sem, r0, r1, r2, r3]) rfl ?_
        exact ⟨_, rfl, hown4, hbl⟩
end Go.Proofs.YtdgedcfenpmaoaaGreat

/- Walks: New, Get. -/
set_option linter.unusedVariables false
set_option linter.unusedSimpArgs false
namespace Go.Proofs.YtdgedcfenpmaoaaGreat
open Go.RowKit

/-- A struct of six cells stored whole. -/
theorem new_nds {w w' : World} {L : List Nd} {v : Value} (h : NewNds w L v w') (he : EntsAll w' L) : Nds w' v L := own_nds h.1 he
theorem nds_slice {w : World} {v : Value} {l : List Nd} (h : Nds w v l) : ∃ a c, v = .slice a l.length c := by obtain ⟨a, c, h, _⟩ := h; exact ⟨a, c, h⟩
theorem alloc_below (w : World) (o : Obj) : Below w.heap.size w (w.alloc o) := (Below.refl _ w).alloc (Nat.le_refl _) _
theorem Blk.put6 {W : World} {B : Nat} {t : TypeId} {x : Nd} (h : Blk W B t (ndC x)) (y : Nd) :
    ∃ W', (((((W.setCell ⟨B, 0, none⟩ (.int .i64 y.ino)).setCell ⟨B, 1, none⟩ (.int .i64 y.kind)).setCell ⟨B, 2, none⟩ (.int .i64 y.links)).setCell ⟨B, 3, none⟩ (.string ⟨y.data.toArray⟩)).setCell ⟨B, 4, none⟩ (.int .i64 y.parent)).setCell ⟨B, 5, none⟩ y.ev = W' ∧
      Blk W' B t (ndC y) ∧ W.grownBy W' (some B) := by
  refine ⟨_, rfl, ?_, ?_⟩
  · exact (((((h.set 0 _).set 1 _).set 2 _).set 3 _).set 4 _).set 5 _
  · exact (((((grownBy_set W B 0 _).trans (grownBy_set _ B 1 _)).trans (grownBy_set _ B 2 _)).trans (grownBy_set _ B 3 _)).trans (grownBy_set _ B 4 _)).trans (grownBy_set _ B 5 _)

def rootN : Nd := ⟨1, 2, 0, [], 1, .slice none 0 0, []⟩
theorem root_all (w : World) : EntsAll w [rootN] := fun x hx => by rw [List.mem_singleton.1 hx]; exact Ents.nil_ w
theorem root_nds (w : World) (t : TypeId) (g : Nat) (hg : g = w.heap.size) : Nds (w.alloc (.cells #[.int .i64 1, .int .i64 2, .int .i64 0, .string ⟨#[]⟩, .int .i64 1, .slice none 0 0] t)) (.slice (some ⟨g, 0, none⟩) 1 1) [rootN] := by
  subst hg
  exact blk_nds (L := [rootN]) (Blk.new w t _) (by simp [maxLen]) (root_all _) 1 rfl

set_option maxHeartbeats 2000000 in
theorem GetN_any (mi mb nx n : Int) (l : List Nd) (v : Value) (w : World) (hv : Nds w v l) (hs : riseP l) (hl : l.length ≤ 1000000) (hd : ∀ x ∈ l, x.data.length ≤ 281474976710656) :
    Calls Tryz.prog 39 #[.agg (fsC mi mb nx v), .int .i64 n] w fun e w' => e = .returned (.tuple #[.agg (ndC (getN l n)), .bool (hasN l n)]) ∧ Below w.heap.size w w' := by
  obtain ⟨a, ca, rfl, hc, hm, hea, hna, HA0⟩ := id hv
  unfold maxLen at hm
  clear HA0
  have b0 := Blk.new w 24 (fsC mi mb nx (.slice a l.length ca))
  have b1 := Blk.new (w.alloc (.cells (fsC mi mb nx (.slice a l.length ca)) 24)) 42 (ndC zeroN)
  have b0' := b0.alloc (.cells (ndC zeroN) 42)
  have hB0 : Below w.heap.size w ((w.alloc (.cells (fsC mi mb nx (.slice a l.length ca)) 24)).alloc (.cells (ndC zeroN) 42)) := ((Below.refl _ w).alloc (Nat.le_refl _) _).alloc (by simp) _
  have hv2 := hv.below hB0
  clear b0
  go_enter Tryz.func39, Tryz.ntmps39
  go_wp2_with fail
  refine (searchN_any l n _ _ hv2 hs hl).mono ?_
  rintro e w1 ⟨lo, rfl, hS, hb⟩
  simp only [World.size_alloc] at b1
  have hv3 := hv2.below hb
  replace b0' := b0'.next hb
  replace b1 := b1.next hb
  have hB1 := hB0.trans (hb.mono hB0.size)
  have hlt1 : w.heap.size + 2 ≤ w1.heap.size := by have := hb.size; simp at this; omega
  clear hB0 hv2 hb hv
  obtain ⟨⟨p0, p1, p2, p3⟩, _⟩ := b0'.four
  cases hh : hasN l n
  · have HG := Lib.hid (getN_none hh)
    obtain ⟨⟨q0, q1, q2, q3, q4, q5⟩, e0, e1, e2, e3, e4, e5⟩ := b1.six
    obtain ⟨W', hW', hb4, hg4⟩ := b1.put6 zeroN
    have hbl := below_grown hB1 hg4 (Nat.le_refl _) (by omega)
    simp only [zeroN] at q0 q1 q2 q3 q4 q5 hW'
    go_wp2
    obtain ⟨⟨r0, r1, r2, r3, r4, r5⟩, _⟩ := hb4.six
    refine bodyPost_ret (v := .tuple #[.agg (ndC zeroN), .bool false]) (by simp [results, Tryz.f39, go_sem, r0, r1, r2, r3, r4, r5, zeroN]) rfl ?_
    exact ⟨by rw [HG.out, hh], hbl⟩
  · obtain ⟨hk, hg⟩ := getN_srch hS hh
    have HG := Lib.hid hg
    clear hg hS
    obtain ⟨_, _, hu, _, _, hea3, _, HA0⟩ := id hv3
    simp only [Value.slice.injEq] at hu
    obtain ⟨rfl, _, rfl⟩ := hu
    obtain ⟨b, o, rfl, hbl, hcl⟩ := HA0 (by omega)
    obtain ⟨c0, c1, c2, c3, c4, c5⟩ := hcl _ hk
    obtain ⟨ae, ne, hye, _⟩ := hea3 _ (List.getElem_mem hk)
    have hyd := hd _ (List.getElem_mem hk)
    clear hcl HA0 hea3
    generalize hy : l[lo] = y at *
    obtain ⟨yi, yk, yl, yd, yp, ye, yn⟩ := y
    dsimp only at hye c0 c1 c2 c3 c4 c5 hyd
    subst hye
    have x8 := Blk.new w1 42 (ndC ⟨yi, yk, yl, yd, yp, .slice ae yn.length ne, yn⟩)
    have b1a := b1.alloc (.cells (ndC ⟨yi, yk, yl, yd, yp, .slice ae yn.length ne, yn⟩) 42)
    have hB2 := hB1.alloc hB1.size (.cells (ndC ⟨yi, yk, yl, yd, yp, .slice ae yn.length ne, yn⟩) 42)
    go_wp2_with fail
    refine (CloneN_any yd _ hyd).mono ?_
    rintro e w2 ⟨rfl, b2⟩
    have x9 := x8.next b2
    have b1b := b1a.next b2
    have hB3 := hB2.trans (b2.mono hB2.size)
    have k3 := x9.cell 3
    have f3 := x9.frozen 3
    replace k3 := k3.trans (rfl : _ = some (Value.string ⟨yd.toArray⟩))
    have x10 := x9.set 3 (.string ⟨yd.toArray⟩)
    rw [show (ndC ⟨yi, yk, yl, yd, yp, .slice ae yn.length ne, yn⟩).setIfInBounds 3 (.string ⟨yd.toArray⟩) = ndC ⟨yi, yk, yl, yd, yp, .slice ae yn.length ne, yn⟩ from rfl] at x10
    have b1c := b1b.other (B2 := w1.heap.size) (i := 3) (by omega) (.string ⟨yd.toArray⟩)
    have hB4 := hB3.setCell (p := ⟨w1.heap.size, 3, none⟩) hB1.size (.string ⟨yd.toArray⟩)
    generalize hw3 : w2.setCell ⟨w1.heap.size, 3, none⟩ (.string ⟨yd.toArray⟩) = w3 at *
    obtain ⟨⟨q0, q1, q2, q3, q4, q5⟩, e0, e1, e2, e3, e4, e5⟩ := b1c.six
    obtain ⟨⟨s0, s1, s2, s3, s4, s5⟩, _⟩ := x10.six
    obtain ⟨W', hW', hb4, hg4⟩ := b1c.put6 ⟨yi, yk, yl, yd, yp, .slice ae yn.length ne, yn⟩
    have hbl := below_grown hB4 hg4 (Nat.le_refl _) (by omega)
    simp only [zeroN] at q0 q1 q2 q3 q4 q5
    dsimp only at hW' s0 s1 s2 s3 s4 s5
    clear x8 b1a x9 b1b b1c x10 c0 c1 c2 c3 c4 c5 p3
    go_wp2
    obtain ⟨⟨r0, r1, r2, r3, r4, r5⟩, _⟩ := hb4.six
    refine bodyPost_ret (v := .tuple #[.agg (ndC ⟨yi, yk, yl, yd, yp, .slice ae yn.length ne, yn⟩), .bool true]) (by simp [results, Tryz.f39, go_sem, r0, r1, r2, r3, r4, r5]) rfl ?_
    exact ⟨by rw [HG.out, hh], hbl⟩
end Go.Proofs.YtdgedcfenpmaoaaGreat
