import Derived.Test.YtoejjdebfjepaaaGreatQMLawBase05
set_option linter.unusedVariables false
set_option linter.unusedSimpArgs false
/- What a rename along plain paths is: MoveSound's and MoveBack's theory. No program's function. -/
set_option linter.unusedVariables false
set_option linter.unusedSimpArgs false
namespace Go.Proofs.YtoejjdebfjepaaaGreat

theorem plain_some {p : List UInt8} {ns : List (List UInt8)} (h : plainB p = some ns) : ns.all mayB = true ∧ p = joinB ns ∧ namesB p = ns := by
  unfold plainB at h
  split at h
  · rename_i c
    rw [Bool.and_eq_true] at c
    have e := Option.some.inj h
    subst e
    exact ⟨c.1, (by have := c.2; simp at this; exact this.symm), rfl⟩
  · cases h
theorem seek_short_path {l : List Nd} {base p : List UInt8} {fo : Bool} (hp : p ≠ []) (h : (seekP l base p fo).2 = 0) : p.length ≤ 4095 := by
  rcases Nat.lt_or_ge 4095 p.length with h2 | h2
  · exfalso
    have hl : longB p = true := by unfold longB; rw [decide_eq_true h2]; rfl
    unfold seekP at h
    rw [if_neg hp, if_pos hl] at h
    cases h
  · exact h2
/-- A plain path that one may go along with no link on the way: seeking it comes to the same place. -/
theorem seek_at {l : List Nd} {p : List UInt8} {ns : List (List UInt8)} {s : Sp} (base : List UInt8) (hp : plainB p = some ns) (h : atN l rootS ns = (s, 0)) (hl : p.length ≤ 4095) : seekP l base p false = (s, 0) := by
  obtain ⟨hm, rfl, _⟩ := plain_some hp
  have hg := mayB_all hm
  unfold seekP
  rw [if_neg (by simp [joinB]), if_neg (by rw [long_more (ms := []) hm (by simp) (by rw [namesB_join _ hg, List.append_nil]) hl]; simp), if_pos (by have := abs_join ns []; rwa [List.append_nil] at this), namesB_join _ hg, slash_join hg]
  have := on_way l false false 40 ns rootS s [] hm h (.inr (.inr ⟨rfl, rfl, rfl⟩))
  rw [List.append_nil] at this
  rw [this, on_nil, if_neg (by simp)]
theorem at_plain {l : List Nd} {p : List UInt8} {ns : List (List UInt8)} (hp : plainB p = some ns) : atP l p = atN l rootS ns := by
  unfold atP; rw [hp]
/-- The way and the last name of a place that has a name. -/
theorem at_parts {l : List Nd} {ns : List (List UInt8)} {S : Sp} (e : atN l rootS ns = (S, 0)) (hn : S.name ≠ []) : ∃ r t, ns = r ++ [S.name] ∧ atN l rootS r = (t, 0) ∧ t.ino ≠ 0 ∧ isDir l t.ino = true ∧ S.dir = t.ino := by
  rcases List.eq_nil_or_concat ns with h | ⟨r, n, h⟩
  · subst h
    have : S = rootS := (Prod.mk.inj e).1.symm
    rw [this] at hn
    exact absurd rfl hn
  · rw [List.concat_eq_append] at h
    subst h
    obtain ⟨t, e1, e2, e3, e4⟩ := at_last r rootS e
    have hh : hasN l t.ino = true := by
      cases hh : hasN l t.ino
      · rw [getN_none hh] at e3; cases e3
      · rfl
    subst e4
    exact ⟨r, t, rfl, e1, e2, dir_mk hh e3, (get_mem hh).2⟩
theorem at_spot {l : List Nd} (tr : Tree l) {ns : List (List UInt8)} {S : Sp} (e : atN l rootS ns = (S, 0)) (hn : S.name ≠ []) : Spot l S := by
  rcases List.eq_nil_or_concat ns with h | ⟨r, n, h⟩
  · subst h
    have : S = rootS := (Prod.mk.inj e).1.symm
    rw [this] at hn
    exact absurd rfl hn
  · rw [List.concat_eq_append] at h
    subst h
    obtain ⟨t, e1, e2, e3, e4⟩ := at_last r rootS e
    have hh : hasN l t.ino = true := by
      cases hh : hasN l t.ino
      · rw [getN_none hh] at e3; cases e3
      · rfl
    subst e4
    exact step_spot tr (dir_mk hh e3) hn
theorem at_some {l : List Nd} {p : List UInt8} {S : Sp} (e : atP l p = (S, 0)) : ∃ ns, plainB p = some ns ∧ atN l rootS ns = (S, 0) := by
  unfold atP at e
  split at e
  · cases e
  · exact ⟨_, by assumption, e⟩
/-- What MoveMoves asks: places where something may be moved. -/
theorem move_ready {mi mb nx : Int} {l : List Nd} (h : okB mi mb nx l = true) {p q : List UInt8} {A B : Sp} (ha : atP l p = (A, 0)) (hb : atP l q = (B, 0)) (a0 : A.ino ≠ 0) (an : A.name ≠ []) (bn : B.name ≠ []) (ne : A.ino ≠ B.ino) (hbare : (getN l B.ino).ents = []) (hout : ¬ ((getN l A.ino).kind = 2 ∧ insideN l B.dir A.ino = true)) :
    (B.ino ≠ 0 → Gone l B.dir B.name B.ino) ∧ (∀ ev, Mv (tL l B ev) A.dir A.name A.ino B.dir B.name) ∧ MvOk l A B := by
  have hs := ok_sound h
  obtain ⟨ps, hp, ea⟩ := at_some ha
  obtain ⟨qs, hq, eb⟩ := at_some hb
  have sA := at_spot hs.tree ea an
  have sB := at_spot hs.tree eb bn
  obtain ⟨r, _, e, _⟩ := at_parts eb bn
  have hm : mayB B.name = true := List.all_eq_true.1 (plain_some hq).1 _ (by rw [e]; simp)
  have t : RenT l A B := ⟨a0, an, bn, ne, hout, fun _ => hm, fun _ => hbare⟩
  have hg : B.ino ≠ 0 → Gone l B.dir B.name B.ino := fun hi => spot_gone hs sB hi bn hbare
  exact ⟨hg, fun ev => ren_mv hs sA sB t ev, mvok_of hs (ok_parts h).1 hg⟩
theorem move_key (l : List Nd) (A B : Sp) (a a1 a2 b b1 b2 : Go.Value) : (mvL (tL l B a) A.dir A.name A.ino B.dir B.name a1 a2).map Nd.key = (mvL (tL l B b) A.dir A.name A.ino B.dir B.name b1 b2).map Nd.key := mvL_key (tL_key l B a b) _ _ _ _ _ _ _ _ _
theorem sound_short {mi mb nx : Int} {l : List Nd} (h : SoundP mi mb nx l) : ∀ x ∈ l, shortP 300 x.ents := by
  intro x hx e hm
  by_cases h2 : x.kind = 2
  · have g := ((rightB_iff _).1 (h.tree.rights _ hx h2)).1 _ hm
    unfold goodE at g
    rw [Bool.and_eq_true] at g
    have := g.1
    simp [mayB] at this
    omega
  · rw [h.tree.files _ hx h2] at hm; cases hm
theorem len_put {l : List Nd} (hr : riseP l) {d : Int} {y : Nd} {c : Nat} (hy : y.ino = (getN l d).ino) (hb : y.ents.length ≤ (getN l d).ents.length + c) (k : Int) : (getN (setN l y) k).ents.length ≤ (getN l k).ents.length + c := by
  rw [get_set hr]
  split
  · rename_i e
    rw [hy] at e
    rw [e]
    cases hh : hasN l d
    · rw [getN_none hh] at hb; have : (zeroN).ents.length = 0 := rfl; omega
    · rw [(get_mem hh).2]; exact hb
  · omega
theorem len_mv {l : List Nd} (hr : riseP l) (ad : Int) (an : List UInt8) (ai bd : Int) (bn : List UInt8) (e1 e2 : Go.Value) (k : Int) : (getN (mvL l ad an ai bd bn e1 e2) k).ents.length ≤ (getN l k).ents.length + 1 := by
  have h1 := len_put hr (d := ad) (y := lessD (getN l ad) an e1) (c := 0) rfl (without_len _ _) k
  have r2 := set_rise (lessD (getN l ad) an e1) hr
  unfold mvL
  dsimp only
  generalize setN l (lessD (getN l ad) an e1) = l2 at *
  have h2 := len_put r2 (d := bd) (y := moreD (getN l2 bd) bn ai e2) (c := 1) rfl (with_len _ _ _) k
  have r3 := set_rise (moreD (getN l2 bd) bn ai e2) r2
  generalize setN l2 (moreD (getN l2 bd) bn ai e2) = l3 at *
  split
  · have h3 := len_put r3 (d := ai) (y := { getN l3 ai with parent := bd }) (c := 0) rfl (Nat.le_refl _) k
    exact Nat.le_trans h3 (by omega)
  · omega
theorem tL_few {mi mb nx : Int} {l : List Nd} (h : SoundP mi mb nx l) (hf : fewN l = true) {B : Sp} (hB : B.ino ≠ 0 → Gone l B.dir B.name B.ino) (ev : Go.Value) (k : Int) : (getN (tL l B ev) k).ents.length ≤ 40 ∧ (getN (tL l B ev) k).data.length ≤ 5000 := by
  unfold tL
  split
  · rename_i c
    rw [un_get h (hB c)]
    split
    · split
      · exact ⟨Nat.zero_le _, Nat.zero_le _⟩
      · exact ⟨(few_get hf B.ino).1, (few_get hf B.ino).2.1⟩
    split
    · exact ⟨Nat.le_trans (without_len _ _) (few_get hf B.dir).1, (few_get hf B.dir).2.1⟩
    · exact ⟨(few_get hf k).1, (few_get hf k).2.1⟩
  · exact ⟨(few_get hf k).1, (few_get hf k).2.1⟩
theorem mv_slim {mi mb nx : Int} {l L : List Nd} (h : SoundP mi mb nx l) (hf : fewN l = true) {A B : Sp} (hB : B.ino ≠ 0 → Gone l B.dir B.name B.ino) {ev e1 e2 : Go.Value} (hL : L = mvL (tL l B ev) A.dir A.name A.ino B.dir B.name e1 e2) (m : Moved (tL l B ev) L A.dir A.name A.ino B.dir B.name) (hs : SoundP mi mb nx L) : Slim L := by
  refine ⟨by rw [m.len]; exact (tL_fit h hf hB ev).2.len, fun x hx => ?_⟩
  have g := tL_few h hf hB ev x.ino
  have e := (getN_of hs.rise hx).1
  have h1 := len_mv (tL_fit h hf hB ev).1.rise A.dir A.name A.ino B.dir B.name e1 e2 x.ino
  have h2 := (m.same x.ino).2.2.2
  rw [← hL, e] at h1
  rw [e] at h2
  exact ⟨by omega, by rw [h2]; exact g.2, sound_short hs x hx⟩
/-- What MoveSound asks. -/
structure SureT (mi mb nx : Int) (l : List Nd) (p q : List UInt8) (L : List Nd) : Prop where
  sound : SoundP mi mb nx L
  slim : Slim L
  same : (atP l p).2 = 0 → (atP l q).2 = 0 → (atP l p).1.ino = (atP l q).1.ino → L = l
  at_ : (atP l p).2 = 0 → (atP l q).2 = 0 → (atP l p).1.ino ≠ (atP l q).1.ino → (atP L q).2 = 0 ∧ (atP L q).1.ino = (atP l p).1.ino ∧ getP L p = (zeroN, 1) ∧ belowN L (L.length + 1) (atP l p).1.ino q = belowN l (l.length + 1) (atP l p).1.ino q
theorem ren_same {l : List Nd} {base src dst : List UInt8} {ev e1 e2 : Go.Value} (h0 : (renameF l base src dst ev e1 e2).2 = 0) : (seekP l base src false).2 = 0 ∧ (seekP l base dst false).2 = 0 ∧ ((seekP l base src false).1.ino = (seekP l base dst false).1.ino → (renameF l base src dst ev e1 e2).1 = l) := by
  by_cases hne : (seekP l base src false).1.ino = (seekP l base dst false).1.ino
  · unfold renameF at h0 ⊢
    by_cases c0 : (seekP l base src false).2 ≠ 0
    · rw [if_pos c0] at h0; exact absurd h0 c0
    rw [if_neg c0] at h0 ⊢
    by_cases c1 : (seekP l base src false).1.ino = 0
    · rw [if_pos c1] at h0; cases h0
    rw [if_neg c1] at h0 ⊢
    by_cases c2 : (seekP l base src false).1.name = []
    · rw [if_pos c2] at h0; cases h0
    rw [if_neg c2] at h0 ⊢
    by_cases c3 : (seekP l base dst false).2 ≠ 0
    · rw [if_pos c3] at h0; exact absurd h0 c3
    rw [if_neg c3] at h0 ⊢
    by_cases c4 : (seekP l base dst false).1.name = []
    · rw [if_pos c4] at h0; cases h0
    rw [if_neg c4, if_pos hne]
    exact ⟨by simpa using c0, by simpa using c3, fun _ => rfl⟩
  · obtain ⟨h1, h2, _⟩ := ren_ok h0 hne
    exact ⟨h1, h2, fun h => absurd h hne⟩
theorem move_sure {mi mb nx : Int} {l : List Nd} (h : okB mi mb nx l = true) {p q : List UInt8} {ps qs : List (List UInt8)} (hp : plainB p = some ps) (hq : plainB q = some qs) {ev e1 e2 : Go.Value} (h0 : (renameF l [47] p q ev e1 e2).2 = 0) :
    SureT mi mb nx l p q (renameF l [47] p q ev e1 e2).1 := by
  have hs := ok_sound h
  obtain ⟨k1, k2, k3⟩ := ren_same h0
  have hpn : p ≠ [] := by rw [(plain_some hp).2.1]; simp [joinB]
  have hqn : q ≠ [] := by rw [(plain_some hq).2.1]; simp [joinB]
  have lp := seek_short_path hpn k1
  have lq := seek_short_path hqn k2
  have sp : (atP l p).2 = 0 → seekP l [47] p false = ((atP l p).1, 0) := fun e => seek_at [47] hp (by rw [← at_plain hp]; exact Prod.ext rfl e) lp
  have sq : (atP l q).2 = 0 → seekP l [47] q false = ((atP l q).1, 0) := fun e => seek_at [47] hq (by rw [← at_plain hq]; exact Prod.ext rfl e) lq
  by_cases hne : (seekP l [47] p false).1.ino = (seekP l [47] q false).1.ino
  · have hL := k3 hne
    refine ⟨by rw [hL]; exact hs, by rw [hL]; exact slim_few (ok_parts h).1, fun _ _ _ => hL, fun a b c => ?_⟩
    rw [sp a, sq b] at hne
    exact absurd hne c
  obtain ⟨_, _, t, hL⟩ := ren_ok h0 hne
  have sA := (seek_spot hs [47] p false).1 k1
  have sB := (seek_spot hs [47] q false).1 k2
  have hv := ren_mv hs sA sB t ev
  have hgB := ren_gone (src := p) hs k2 t
  obtain ⟨hT, _⟩ := tL_fit hs (ok_parts h).1 hgB ev
  have m := mv_moved (e1 := e1) (e2 := e2) hT hv
  rw [hL]
  refine ⟨moved_sound hT hv m, mv_slim hs (ok_parts h).1 hgB rfl m (moved_sound hT hv m), fun a b c => ?_, fun a b c => ?_⟩
  · rw [sp a, sq b] at hne; exact absurd c hne
  have ea := sp a
  have eb := sq b
  have eA : atN l rootS ps = ((atP l p).1, 0) := by rw [← at_plain hp]; exact Prod.ext rfl a
  have eB : atN l rootS qs = ((atP l q).1, 0) := by rw [← at_plain hq]; exact Prod.ext rfl b
  rw [ea, eb] at hv m t ⊢
  rw [eb] at hgB hT
  dsimp only at hv hT m t hgB ⊢
  have hatq := at_plain (l := mvL (tL l (atP l q).1 ev) (atP l p).1.dir (atP l p).1.name (atP l p).1.ino (atP l q).1.dir (atP l q).1.name e1 e2) hq
  have hatp := at_plain (l := mvL (tL l (atP l q).1 ev) (atP l p).1.dir (atP l p).1.name (atP l p).1.ino (atP l q).1.dir (atP l q).1.name e1 e2) hp
  rw [hatq]
  rw [ea] at sA
  rw [eb] at sB
  dsimp only at sA sB
  generalize (atP l p).1 = A at *
  generalize (atP l q).1 = B at *
  obtain ⟨r, u, rfl, w1, w2, w3, w4⟩ := at_parts eA t.aname
  obtain ⟨r2, u2, rfl, v1, v2, v3, v4⟩ := at_parts eB t.bname
  have way : ∀ (r : List (List UInt8)) (u : Sp), atN l rootS r = (u, 0) → isDir l u.ino = true → (B.ino ≠ 0 → u.ino ≠ B.ino) → atN (tL l B ev) rootS r = (u, 0) := by
    intro r u e hd hn
    unfold tL
    by_cases hb : B.ino = 0
    · rw [if_neg (by simp [hb])]; exact e
    · rw [if_pos hb]; exact un_way hs (hgB hb) r rootS u (by decide) e hd (hn hb)
  have hA : hasB (getN l A.dir).ents A.name = true ∧ (A.name, A.ino) ∈ (getN l A.dir).ents := by
    obtain ⟨a1, a2, a3⟩ := sA.entry t.aname
    rw [decide_eq_true t.aino] at a3
    have := (has_num hs.tree a3).1
    rw [a2] at this
    exact ⟨a3, this⟩
  have n1 : B.ino ≠ 0 → u.ino ≠ B.ino := fun hb e => by
    have := hA.2
    rw [w4, e, t.bare hb] at this
    cases this
  have n2 : B.ino ≠ 0 → u2.ino ≠ B.ino := fun hb e => gone_ne (hgB hb) (by rw [v4, e])
  have hdiff : ¬ (A.dir = B.dir ∧ A.name = B.name) := fun ⟨d1, d2⟩ => by
    obtain ⟨_, b2, b3⟩ := sB.entry t.bname
    obtain ⟨_, a2, _⟩ := sA.entry t.aname
    rw [d1, d2, b2] at a2
    exact t.ne a2.symm
  have m1 := moved_at hT hv m r2 (s := rootS) (t := u2) (by decide) (way r2 u2 v1 v3 n2) v4.symm
  have m2 := moved_gone hT hv m hdiff r (s := rootS) (t := u) (by decide) (way r u w1 w3 n1) w4.symm
  rw [m1]
  refine ⟨rfl, rfl, ?_, ?_⟩
  · unfold getP
    rw [hatp, m2]
    rfl
  · have hho : ∀ k, parN l k B.dir ≠ A.ino := by
      intro k e
      cases hd : isDir l A.ino
      · have := par_dirs hs (sB.entry t.bname).1 k
        rw [e, hd] at this; cases this
      · exact t.out ⟨(dir_parts hd).2, (inside_iff hs (sB.entry t.bname).1).2 ⟨k, e⟩⟩
    by_cases hb : B.ino = 0
    · have et : tL l B ev = l := by unfold tL; rw [if_neg (by simp [hb])]
      rw [et] at m hv hT ⊢
      exact moved_depth hT hv m q
    · have et : tL l B ev = unL l B.dir B.name B.ino ev := by unfold tL; rw [if_pos hb]
      rw [et] at m hv hT ⊢
      exact over_depth hs (hgB hb) hv m (fun e => t.ne e.symm) hho q
/-- What MoveBack asks. -/
theorem move_back {mi mb nx : Int} {l : List Nd} (h : okB mi mb nx l = true) {p q : List UInt8} {ps qs : List (List UInt8)} (hp : plainB p = some ps) (hq : plainB q = some qs) {ev e1 e2 : Go.Value} (h0 : (renameF l [47] p q ev e1 e2).2 = 0) (ha : (getP l p).2 = 0) (hb : (atP l q).2 = 0) (hb0 : (atP l q).1.ino = 0) (f f1 f2 : Go.Value) :
    (renameF (renameF l [47] p q ev e1 e2).1 [47] q p f f1 f2).2 = 0 ∧ onesB (renameF (renameF l [47] p q ev e1 e2).1 [47] q p f f1 f2).1 l = true := by
  have hs := ok_sound h
  obtain ⟨k1, k2, _⟩ := ren_same h0
  have hpn : p ≠ [] := by rw [(plain_some hp).2.1]; simp [joinB]
  have hqn : q ≠ [] := by rw [(plain_some hq).2.1]; simp [joinB]
  have lp := seek_short_path hpn k1
  have lq := seek_short_path hqn k2
  have a0 : (atP l p).2 = 0 ∧ (atP l p).1.ino ≠ 0 := by
    unfold getP at ha
    by_cases c : (atP l p).2 = 0
    · rw [if_neg (by simp [c])] at ha
      refine ⟨c, fun e => ?_⟩
      rw [if_pos e] at ha; cases ha
    · rw [if_pos c] at ha; exact absurd ha c
  have ea : seekP l [47] p false = ((atP l p).1, 0) := seek_at [47] hp (by rw [← at_plain hp]; exact Prod.ext rfl a0.1) lp
  have eb : seekP l [47] q false = ((atP l q).1, 0) := seek_at [47] hq (by rw [← at_plain hq]; exact Prod.ext rfl hb) lq
  have hne : (seekP l [47] p false).1.ino ≠ (seekP l [47] q false).1.ino := by
    rw [ea, eb]; show (atP l p).1.ino ≠ (atP l q).1.ino; rw [hb0]; exact a0.2
  obtain ⟨_, _, t, hL⟩ := ren_ok h0 hne
  have sA := (seek_spot hs [47] p false).1 k1
  have sB := (seek_spot hs [47] q false).1 k2
  have hv := ren_mv hs sA sB t ev
  have et : tL l (seekP l [47] q false).1 ev = l := by unfold tL; rw [if_neg (by rw [eb]; simp [hb0])]
  rw [et] at hv hL
  rw [hL]
  have m := mv_moved (e1 := e1) (e2 := e2) hs hv
  have eA : atN l rootS ps = ((atP l p).1, 0) := by rw [← at_plain hp]; exact Prod.ext rfl a0.1
  have eB : atN l rootS qs = ((atP l q).1, 0) := by rw [← at_plain hq]; exact Prod.ext rfl hb
  rw [ea, eb] at t m hv ⊢
  rw [ea] at sA
  rw [eb] at sB
  dsimp only at t m hv sA sB ⊢
  have hatq := at_plain (l := mvL l (atP l p).1.dir (atP l p).1.name (atP l p).1.ino (atP l q).1.dir (atP l q).1.name e1 e2) hq
  have hatp := at_plain (l := mvL l (atP l p).1.dir (atP l p).1.name (atP l p).1.ino (atP l q).1.dir (atP l q).1.name e1 e2) hp
  obtain ⟨A, hA⟩ : ∃ A, A = (atP l p).1 := ⟨_, rfl⟩
  obtain ⟨B, hB⟩ : ∃ B, B = (atP l q).1 := ⟨_, rfl⟩
  rw [← hA] at eA t m hv sA hatp hatq ⊢
  rw [← hB] at eB t m hv sB hatp hatq ⊢
  clear hA hB
  obtain ⟨r, u, rfl, w1, w2, w3, w4⟩ := at_parts eA t.aname
  obtain ⟨r2, u2, rfl, v1, v2, v3, v4⟩ := at_parts eB t.bname
  obtain ⟨a1, a2, a3⟩ := sA.entry t.aname
  obtain ⟨b1, b2, b3⟩ := sB.entry t.bname
  have hdiff : ¬ (A.dir = B.dir ∧ A.name = B.name) := fun ⟨d1, d2⟩ => by
    rw [d1, d2, b2] at a2
    exact t.ne a2.symm
  have hmay : mayB A.name = true := by
    obtain ⟨g1, g2⟩ := dir_parts a1
    have g := ((rightB_iff _).1 (hs.tree.rights _ (get_mem g1).1 g2)).1 _ hv.ent
    unfold goodE at g
    rw [Bool.and_eq_true] at g
    exact g.1
  have m1 := moved_at hs hv m r2 (s := rootS) (t := u2) (by decide) v1 v4.symm
  have m2 := moved_gone hs hv m hdiff r (s := rootS) (t := u) (by decide) w1 w4.symm
  have hs2 := moved_sound hs hv m
  have hv2 := moved_mv hs hv m hdiff hmay
  generalize mvL l A.dir A.name A.ino B.dir B.name e1 e2 = L at *
  have fq := seek_at [47] hq m1 lq
  have fp := seek_at [47] hp m2 lp
  have hsl : slashB p = false := by rw [(plain_some hp).2.1]; exact slash_join (mayB_all (plain_some hp).1)
  have hin : ¬ ((getN L A.ino).kind = 2 ∧ insideN L A.dir A.ino = true) := fun ⟨c1, c2⟩ => by
    have hd : isDir L A.ino = true := dir_mk (by cases hh : hasN L A.ino; · rw [getN_none hh] at c1; cases c1
                                                 · rfl) c1
    obtain ⟨k, hk⟩ := (inside_iff hs2 hv2.dir).1 c2
    exact hv2.out hd k hk
  have e0 : renameF L [47] q p f f1 f2 = (mvL L B.dir B.name A.ino A.dir A.name f1 f2, 0) := by
    unfold renameF
    rw [fq, fp]
    dsimp only
    rw [if_neg (by simp), if_neg t.aino, if_neg t.bname, if_neg (by simp), if_neg t.aname, if_neg t.aino, if_neg hin, if_pos rfl, if_neg (by rw [hsl]; simp), if_neg (by rw [hmay]; simp)]
    rfl
  rw [e0]
  exact ⟨rfl, decide_eq_true (moved_back hs hv m (mv_moved hs2 hv2) hv2)⟩
/-- What MoveInside asks. -/
theorem inside_self {mi mb nx : Int} {l : List Nd} (h : SoundP mi mb nx l) {a : Int} (hd : isDir l a = true) : insideN l a a = true ∧ insideN l a 1 = true := by
  refine ⟨(inside_iff h hd).2 ⟨0, rfl⟩, ?_⟩
  obtain ⟨m, _, hlv⟩ := on_level h.tree (dir_parts hd).1
  exact (inside_iff h hd).2 ⟨m, par_level h m hd hlv⟩
theorem inside_not {mi mb nx : Int} {l : List Nd} (h : SoundP mi mb nx l) {a b : Int} (ha : isDir l a = true) (hb : isDir l b = true) (hne : a ≠ b) (h1 : insideN l a b = true) : insideN l b a = false := by
  cases h2 : insideN l b a
  · rfl
  exfalso
  obtain ⟨k, hk⟩ := (inside_iff h ha).1 h1
  obtain ⟨j, hj⟩ := (inside_iff h hb).1 h2
  have e : parN l (k + j) a = a := by rw [par_add, hk, hj]
  cases k with
  | zero => exact hne hk
  | succ k =>
    by_cases h3 : a = 1
    · subst h3
      rw [par_one h] at hk
      exact hne hk
    · rw [show k + 1 + j = (k + j) + 1 from by omega] at e
      exact par_loop h ha h3 _ e
theorem ren_bad {l : List Nd} {base src dst : List UInt8} {ev e1 e2 : Go.Value} (h0 : (renameF l base src dst ev e1 e2).2 ≠ 0) : (renameF l base src dst ev e1 e2).1 = l := by
  unfold renameF at h0 ⊢
  by_cases c0 : (seekP l base src false).2 ≠ 0
  · rw [if_pos c0]
  rw [if_neg c0] at h0 ⊢
  by_cases c1 : (seekP l base src false).1.ino = 0
  · rw [if_pos c1]
  rw [if_neg c1] at h0 ⊢
  by_cases c2 : (seekP l base src false).1.name = []
  · rw [if_pos c2]
  rw [if_neg c2] at h0 ⊢
  by_cases c3 : (seekP l base dst false).2 ≠ 0
  · rw [if_pos c3]
  rw [if_neg c3] at h0 ⊢
  by_cases c4 : (seekP l base dst false).1.name = []
  · rw [if_pos c4]
  rw [if_neg c4] at h0 ⊢
  by_cases c5 : (seekP l base src false).1.ino = (seekP l base dst false).1.ino
  · rw [if_pos c5]
  rw [if_neg c5] at h0 ⊢
  by_cases c6 : (getN l (seekP l base src false).1.ino).kind = 2 ∧ insideN l (seekP l base dst false).1.dir (seekP l base src false).1.ino = true
  · rw [if_pos c6]
  rw [if_neg c6] at h0 ⊢
  by_cases c7 : (seekP l base dst false).1.ino = 0
  · rw [if_pos c7] at h0 ⊢
    by_cases c8 : slashB dst = true ∧ (getN l (seekP l base src false).1.ino).kind ≠ 2
    · rw [if_pos c8]
    rw [if_neg c8] at h0 ⊢
    by_cases c9 : mayB (seekP l base dst false).1.name = false
    · rw [if_pos c9]
    rw [if_neg c9] at h0 ⊢
    exact absurd rfl h0
  · rw [if_neg c7] at h0 ⊢
    by_cases c8 : (getN l (seekP l base src false).1.ino).kind = 2 ∧ (getN l (seekP l base dst false).1.ino).kind ≠ 2
    · rw [if_pos c8]
    rw [if_neg c8] at h0 ⊢
    by_cases c9 : (getN l (seekP l base dst false).1.ino).kind = 2 ∧ (getN l (seekP l base src false).1.ino).kind ≠ 2
    · rw [if_pos c9]
    rw [if_neg c9] at h0 ⊢
    by_cases c10 : (getN l (seekP l base dst false).1.ino).ents.length > 0
    · rw [if_pos c10]
    rw [if_neg c10] at h0 ⊢
    exact absurd rfl h0
end Go.Proofs.YtoejjdebfjepaaaGreat
