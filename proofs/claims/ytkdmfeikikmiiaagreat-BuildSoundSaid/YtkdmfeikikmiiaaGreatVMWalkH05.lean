/- Texts put together: Build15, LawBase05, Alike15, Ran15, Here, Pure10c, Pure11b, Pure12c, WalkH04, WalkG05, WalkH05. -/
import Derived.Test.YtkdmfeikikmiiaaGreatVMSure14
import Derived.Test.YtkdmfeikikmiiaaGreatVMWalkB05
import Derived.Test.YtkdmfeikikmiiaaGreatVMWalkB03
import Derived.Test.YtkdmfeikikmiiaaGreatRows
import Derived.ProofKit
import Derived.OpenShut
import Derived.ShutString
import Derived.ChangeOld
import Derived.SizedLaws
import Derived.Deep.SlicePairs
import Derived.Lib.SmallJoins
import Derived.Test.YtkdmfeikikmiiaaGreatVMList11
import Derived.Laws.AppendOwn
import Derived.Test.YtkdmfeikikmiiaaGreatChecked
import Derived.BigQuiet
import Derived.Laws.StructEq
import Derived.Deep.LoopGhost
import Derived.StillTailTactics
set_option linter.unusedVariables false
set_option linter.unusedSimpArgs false
namespace Go.Proofs.YtkdmfeikikmiiaaGreat
structure CallV where
  op : Int
  a : List UInt8
  b : List UInt8
  data : List UInt8
abbrev St := Int × List Nd
/-- What a call makes of a file system, and its error. -/
def doF (mi mb : Int) (s : St) (base : List UInt8) (c : CallV) (ev e1 e2 : Go.Value) : St × Int :=
  if c.op = 1 then putF mi mb s.1 s.2 base c.a 2 [] 0 ev
  else if c.op = 2 then putF mi mb s.1 s.2 base c.a 1 c.data 4 ev
  else if c.op = 3 then ((s.1, (writeF mi mb s.2 base c.a c.data).1), (writeF mi mb s.2 base c.a c.data).2)
  else if c.op = 4 then symF mi mb s.1 s.2 base c.data c.a ev
  else if c.op = 5 then ((s.1, (linkF s.2 base c.a c.b ev).1), (linkF s.2 base c.a c.b ev).2)
  else if c.op = 6 then ((s.1, (unlinkF s.2 base c.a ev).1), (unlinkF s.2 base c.a ev).2)
  else if c.op = 7 then ((s.1, (rmdirF s.2 base c.a ev).1), (rmdirF s.2 base c.a ev).2)
  else if c.op = 8 then ((s.1, (renameF s.2 base c.a c.b ev e1 e2).1), (renameF s.2 base c.a c.b ev e1 e2).2)
  else (s, 9)
/-- A state that k calls at most have made of an empty file system. -/
structure Kit (mi mb : Int) (k : Nat) (s : St) : Prop where
  sound : SoundP mi mb s.1 s.2
  len : s.2.length ≤ 1 + k
  ents : entsN s.2 ≤ k
  data : ∀ i, (getN s.2 i).data.length ≤ 300
  next : s.1 ≤ 2 + k
theorem Kit.more {mi mb : Int} {k : Nat} {s : St} (h : Kit mi mb k s) : Kit mi mb (k + 1) s :=
  ⟨h.sound, by have := h.len; omega, by have := h.ents; omega, h.data, by have := h.next; omega⟩
theorem ents_each {l : List Nd} : ∀ x ∈ l, x.ents.length ≤ entsN l := by
  induction l with
  | nil => intro x hx; cases hx
  | cons y r ih =>
    intro x hx
    unfold entsN at *
    rw [List.map_cons, List.sum_cons]
    rcases List.mem_cons.1 hx with rfl | h
    · omega
    · have := ih x h; omega
theorem Kit.slim {mi mb : Int} {k : Nat} {s : St} (h : Kit mi mb k s) (hk : k ≤ 30) : ∀ x ∈ s.2, x.ents.length ≤ 30 ∧ x.data.length ≤ 300 ∧ shortP 300 x.ents := by
  intro x hx
  have hd := h.data x.ino
  rw [(getN_of h.sound.rise hx).1] at hd
  have he := ents_each x hx
  have hke := h.ents
  refine ⟨by omega, hd, fun e hm => ?_⟩
  by_cases h2 : x.kind = 2
  · have g := ((rightB_iff _).1 (h.sound.tree.rights _ hx h2)).1 _ hm
    unfold goodE at g
    rw [Bool.and_eq_true] at g
    have := g.1
    simp [mayB] at this
    omega
  · rw [h.sound.tree.files _ hx h2] at hm; cases hm
theorem Kit.few {mi mb : Int} {k : Nat} {s : St} (h : Kit mi mb k s) (hk : k ≤ 30) : fewN s.2 = true := by
  have hl := h.len
  unfold fewN
  rw [Bool.and_eq_true, decide_eq_true_eq, List.all_eq_true]
  refine ⟨by omega, fun x hx => ?_⟩
  obtain ⟨h1, h2, h3⟩ := h.slim hk x hx
  unfold fewX
  rw [Bool.and_eq_true, Bool.and_eq_true, decide_eq_true_eq, decide_eq_true_eq, List.all_eq_true]
  exact ⟨⟨by omega, by omega⟩, fun e he => decide_eq_true (h3 e he)⟩
theorem Kit.ok {mi mb : Int} {k : Nat} {s : St} (h : Kit mi mb k s) (hk : k ≤ 30) : okB mi mb s.1 s.2 = true := by
  unfold okB
  rw [h.few hk, decide_eq_true (sound_check h.sound)]; rfl
theorem ents_put {l : List Nd} (hr : riseP l) {d : Int} {y : Nd} {k : Nat} (hy : y.ino = (getN l d).ino) (hb : y.ents.length ≤ (getN l d).ents.length + k) : entsN (setN l y) ≤ entsN l + k := by
  have h1 := sum_set (fun x => x.ents.length) rfl hr y
  have h2 : (getN l d).ents.length ≤ (getN l y.ino).ents.length := by
    rw [hy]
    cases hh : hasN l d
    · rw [getN_none hh]; exact Nat.zero_le _
    · rw [(get_mem hh).2]; exact Nat.le_refl _
  have h3 : sumN (fun x => x.ents.length) (setN l y) = entsN (setN l y) := rfl
  have h4 : sumN (fun x => x.ents.length) l = entsN l := rfl
  omega
theorem ents_leaf {l : List Nd} (hr : riseP l) {y : Nd} (hb : y.ents = []) : entsN (setN l y) ≤ entsN l := by
  have h1 := sum_set (fun x => x.ents.length) rfl hr y
  have h3 : sumN (fun x => x.ents.length) (setN l y) = entsN (setN l y) := rfl
  have h4 : sumN (fun x => x.ents.length) l = entsN l := rfl
  rw [hb] at h1
  simp only [List.length_nil] at h1
  omega
theorem ents_new {l : List Nd} (hr : riseP l) (d : Int) (n : List UInt8) (ev : Go.Value) {x : Nd} (hx : x.ents = []) : entsN (newL l d n ev x) ≤ entsN l + 1 := by
  have h1 := ents_put hr (d := d) (y := moreD (getN l d) n x.ino ev) (k := 1) rfl (with_len _ _ _)
  have h2 := ents_leaf (set_rise (moreD (getN l d) n x.ino ev) hr) hx
  unfold newL
  omega
theorem ents_mv {l : List Nd} (hr : riseP l) (ad : Int) (an : List UInt8) (ai bd : Int) (bn : List UInt8) (e1 e2 : Go.Value) : entsN (mvL l ad an ai bd bn e1 e2) ≤ entsN l + 1 := by
  have h1 := ents_put hr (d := ad) (y := lessD (getN l ad) an e1) (k := 0) rfl (without_len _ _)
  have r2 := set_rise (lessD (getN l ad) an e1) hr
  unfold mvL
  dsimp only
  generalize setN l (lessD (getN l ad) an e1) = l2 at *
  have h2 := ents_put r2 (d := bd) (y := moreD (getN l2 bd) bn ai e2) (k := 1) rfl (with_len _ _ _)
  have r3 := set_rise (moreD (getN l2 bd) bn ai e2) r2
  generalize setN l2 (moreD (getN l2 bd) bn ai e2) = l3 at *
  split
  · have h3 := ents_put r3 (d := ai) (y := { getN l3 ai with parent := bd }) (k := 0) rfl (Nat.le_refl _)
    exact Nat.le_trans h3 (by omega)
  · omega
theorem data_new {l : List Nd} (hr : riseP l) (hd : ∀ i, (getN l i).data.length ≤ 300) (d : Int) (n : List UInt8) (ev : Go.Value) {x : Nd} (hx : x.data.length ≤ 300) (i : Int) : (getN (newL l d n ev x) i).data.length ≤ 300 := by
  unfold newL
  rw [get_set (set_rise _ hr)]
  split
  · exact hx
  rw [get_set hr]
  split
  · exact hd d
  · exact hd i
theorem put_form {mi mb nx : Int} {l : List Nd} {base p data : List UInt8} {k rf : Int} {ev : Go.Value} (h0 : (putF mi mb nx l base p k data rf ev).2 = 0) (hrf : rf ≠ 0 ∨ k = 2 ∧ rf = 0) :
    (putF mi mb nx l base p k data rf ev).1 = (nx + 1, newL l (seekP l base p false).1.dir (seekP l base p false).1.name ev (leafX nx k data (seekP l base p false).1.dir)) := by
  unfold putF at h0 ⊢
  split at h0
  · rename_i c; exact absurd h0 c
  rename_i c1
  rw [if_neg c1]
  split at h0
  · cases h0
  rename_i c2
  rw [if_neg c2]
  split at h0
  · rename_i c; exact absurd h0 c.1
  rename_i c3
  rw [if_neg c3]
  unfold newF at h0 ⊢
  split at h0
  · cases h0
  rename_i c4
  rw [if_neg c4]
  split at h0
  · cases h0
  rename_i c5
  rw [if_neg c5]
theorem kit_put {mi mb : Int} {k : Nat} {s : St} (h : Kit mi mb k s) (hk : k ≤ 30) {base p data : List UInt8} {K rf : Int} {ev : Go.Value} (hK : K = 1 ∨ K = 2 ∨ K = 3) (hd : K = 2 → data = []) (hd3 : K = 3 → 1 ≤ data.length ∧ data.length ≤ 4095 ∧ data.all (fun c => c != 0) = true) (hrf : K ≠ 2 → rf ≠ 0) (hr2 : K = 2 → rf = 0) (hdl : data.length ≤ 300) :
    Kit mi mb (k + 1) (putF mi mb s.1 s.2 base p K data rf ev).1 ∧ ((putF mi mb s.1 s.2 base p K data rf ev).2 ≠ 0 → (putF mi mb s.1 s.2 base p K data rf ev).1 = s) := by
  refine ⟨?_, putF_bad⟩
  by_cases h0 : (putF mi mb s.1 s.2 base p K data rf ev).2 = 0
  · have hor : rf ≠ 0 ∨ K = 2 ∧ rf = 0 := by
      by_cases h2 : K = 2
      · exact .inr ⟨h2, hr2 h2⟩
      · exact .inl (hrf h2)
    have hn : s.1 < 1099511627776 := by have := h.next; omega
    obtain ⟨g1, _, _, _, g5, _, _⟩ := put_sound h.sound hn hK hd hd3 hrf h0 (hor.elim .inl fun h => .inr h.1)
    have hf := put_form h0 hor
    refine ⟨g1, by have := h.len; omega, ?_, fun i => ?_, ?_⟩
    · rw [hf]
      have := ents_new h.sound.rise (seekP s.2 base p false).1.dir (seekP s.2 base p false).1.name ev (x := leafX s.1 K data (seekP s.2 base p false).1.dir) rfl
      have he := h.ents
      show entsN (newL _ _ _ _ _) ≤ k + 1
      omega
    · rw [hf]
      exact data_new h.sound.rise h.data _ _ ev (x := leafX s.1 K data (seekP s.2 base p false).1.dir) hdl i
    · rw [hf]
      have := h.next
      show s.1 + 1 ≤ _
      omega
  · rw [putF_bad h0]; exact h.more
theorem kit_sym {mi mb : Int} {k : Nat} {s : St} (h : Kit mi mb k s) (hk : k ≤ 30) {base p t : List UInt8} {ev : Go.Value} (hdl : t.length ≤ 300) :
    Kit mi mb (k + 1) (symF mi mb s.1 s.2 base t p ev).1 ∧ ((symF mi mb s.1 s.2 base t p ev).2 ≠ 0 → (symF mi mb s.1 s.2 base t p ev).1 = s) := by
  unfold symF
  split
  · exact ⟨h.more, fun _ => rfl⟩
  rename_i h1
  split
  · exact ⟨h.more, fun _ => rfl⟩
  split
  · exact ⟨h.more, fun _ => rfl⟩
  rename_i h3
  refine kit_put h hk (.inr (.inr rfl)) (fun e => absurd e (by decide)) (fun _ => ⟨?_, by omega, ?_⟩) (fun _ => by decide) (fun e => absurd e (by decide)) hdl
  · rcases Nat.eq_zero_or_pos t.length with e | e
    · exact absurd (List.length_eq_zero_iff.1 e) h1
    · exact e
  · rw [List.all_eq_true]
    intro c hc
    rw [bne_iff_ne]
    rintro rfl
    exact h3 (List.contains_iff_mem.2 hc)
theorem kit_write {mi mb : Int} {k : Nat} {s : St} (h : Kit mi mb k s) (hk : k ≤ 30) {base p d : List UInt8} (hdl : d.length ≤ 300) :
    Kit mi mb (k + 1) (s.1, (writeF mi mb s.2 base p d).1) ∧ ((writeF mi mb s.2 base p d).2 ≠ 0 → (s.1, (writeF mi mb s.2 base p d).1) = s) := by
  refine ⟨?_, fun h0 => by rw [write_bad h0]⟩
  by_cases h0 : (writeF mi mb s.2 base p d).2 = 0
  · have hr : (readF s.2 base p).2 = 0 := by
      unfold writeF at h0
      by_cases c : (readF s.2 base p).2 = 0
      · exact c
      · rw [if_pos c] at h0; exact absurd h0 c
    obtain ⟨i, _, _, _, hi, hki, hst, _⟩ := read_ok (ok_s (h.ok hk)) hr
    have hw := write_of (mi := mi) (mb := mb) (d := d) hi hst hki
    rw [hw] at h0 ⊢
    obtain ⟨e, hf⟩ := set_good h0
    rw [e]
    have hdat := data_get (data := d) h.sound hi
    refine ⟨data_sound h.sound hi hki hf, ?_, ?_, fun j => ?_, by have := h.next; show s.1 ≤ _; omega⟩
    · show (dataL s.2 i d).length ≤ _
      rw [data_len h.sound hi]; have := h.len; omega
    · have := ents_put h.sound.rise (d := i) (y := { getN s.2 i with data := d }) (k := 0) rfl (Nat.le_refl _)
      have he := h.ents
      show entsN (dataL s.2 i d) ≤ _
      unfold dataL
      omega
    · show (getN (dataL s.2 i d) j).data.length ≤ 300
      rw [hdat]
      split
      · exact hdl
      · exact h.data j
  · rw [write_bad h0]; exact h.more
theorem kit_un {mi mb : Int} {k : Nat} {s : St} (h : Kit mi mb k s) {d i : Int} {n : List UInt8} {ev : Go.Value} (hg : Gone s.2 d n i) : Kit mi mb (k + 1) (s.1, unL s.2 d n i ev) := by
  refine ⟨un_sound h.sound hg, ?_, ?_, fun j => ?_, by have := h.next; show s.1 ≤ _; omega⟩
  · have := un_len (ev := ev) h.sound hg; have := h.len; show (unL s.2 d n i ev).length ≤ _; omega
  · have := un_ents (ev := ev) h.sound hg; have := h.ents; show entsN (unL s.2 d n i ev) ≤ _; omega
  · show (getN (unL s.2 d n i ev) j).data.length ≤ 300
    rw [un_get h.sound hg]
    split
    · split
      · exact Nat.zero_le _
      · exact h.data i
    split
    · exact h.data d
    · exact h.data j
theorem kit_link {mi mb : Int} {k : Nat} {s : St} (h : Kit mi mb k s) {base src dst : List UInt8} {ev : Go.Value} :
    Kit mi mb (k + 1) (s.1, (linkF s.2 base src dst ev).1) ∧ ((linkF s.2 base src dst ev).2 ≠ 0 → (s.1, (linkF s.2 base src dst ev).1) = s) := by
  refine ⟨?_, fun h0 => by rw [link_bad h0]⟩
  by_cases h0 : (linkF s.2 base src dst ev).2 = 0
  · obtain ⟨d, i, n, t⟩ := link_ok h.sound h0
    rw [t.ans]
    have hg := t.given
    have hd := (dir_parts hg.dir).1
    refine ⟨na_sound h.sound hg, ?_, ?_, fun j => ?_, by have := h.next; show s.1 ≤ _; omega⟩
    · show (naL s.2 d n i ev).length ≤ _
      unfold naL
      have e1 : (moreD (getN s.2 d) n i ev).ino = d := (get_mem hd).2
      have e2 : (linkX (getN s.2 i) ((getN s.2 i).links + 1)).ino = i := (get_mem hg.has).2
      rw [len_set_has (set_rise _ h.sound.rise) _ (by rw [e2, has_set, hg.has, Bool.or_true]), len_set_has h.sound.rise _ (by rw [e1]; exact hd)]
      have := h.len; omega
    · have := na_ents (ev := ev) h.sound hg; have := h.ents; show entsN (naL s.2 d n i ev) ≤ _; omega
    · show (getN (naL s.2 d n i ev) j).data.length ≤ 300
      rw [na_get h.sound hg]
      split
      · exact h.data i
      split
      · exact h.data d
      · exact h.data j
  · rw [link_bad h0]; exact h.more
theorem unlink_gone {mi mb nx : Int} {l : List Nd} (hs : SoundP mi mb nx l) {base p : List UInt8} {ev : Go.Value} : (unlinkF l base p ev).1 = l ∨ ∃ d n i, Gone l d n i ∧ unlinkF l base p ev = (unL l d n i ev, 0) := by
  have s1 := seek_spot hs base p false
  unfold unlinkF
  split
  · exact .inl rfl
  rename_i c1
  split
  · exact .inl rfl
  rename_i c2
  split
  · exact .inl rfl
  rename_i c3
  have p1 := s1.1 (by simpa using c1)
  have hn : (seekP l base p false).1.name ≠ [] := fun e => c3 (dir_parts (p1.bare e).1).2
  exact .inr ⟨_, _, _, spot_gone hs p1 c2 hn (leaf_bare hs (spot_has hs p1 c2) c3), rfl⟩
theorem rmdir_gone {mi mb nx : Int} {l : List Nd} (hs : SoundP mi mb nx l) {base p : List UInt8} {ev : Go.Value} : (rmdirF l base p ev).1 = l ∨ ∃ d n i, Gone l d n i ∧ rmdirF l base p ev = (unL l d n i ev, 0) := by
  have s1 := seek_spot hs base p false
  unfold rmdirF
  split
  · exact .inl rfl
  rename_i c1
  split
  · exact .inl rfl
  rename_i c2
  split
  · exact .inl rfl
  split
  · exact .inl rfl
  split
  · exact .inl rfl
  rename_i c5
  split
  · exact .inl rfl
  rename_i c6
  exact .inr ⟨_, _, _, spot_gone hs (s1.1 (by simpa using c1)) c2 c5 (List.length_eq_zero_iff.1 (by omega)), rfl⟩
theorem kit_ren {mi mb : Int} {k : Nat} {s : St} (h : Kit mi mb k s) (hk : k ≤ 30) {base src dst : List UInt8} {ev e1 e2 : Go.Value} :
    Kit mi mb (k + 1) (s.1, (renameF s.2 base src dst ev e1 e2).1) ∧ ((renameF s.2 base src dst ev e1 e2).2 ≠ 0 → (s.1, (renameF s.2 base src dst ev e1 e2).1) = s) := by
  refine ⟨?_, fun h0 => by rw [ren_bad h0]⟩
  by_cases h0 : (renameF s.2 base src dst ev e1 e2).2 = 0
  · by_cases hne : (seekP s.2 base src false).1.ino = (seekP s.2 base dst false).1.ino
    · have e : (renameF s.2 base src dst ev e1 e2).1 = s.2 := by
        unfold renameF at h0 ⊢
        split
        · rfl
        split
        · rfl
        split
        · rfl
        split
        · rfl
        split
        · rfl
        first | rfl | (rw [if_pos hne])
      rw [e]; exact h.more
    obtain ⟨k1, k2, t, hL⟩ := ren_ok h0 hne
    have hs := h.sound
    have sA := (seek_spot hs base src false).1 k1
    have sB := (seek_spot hs base dst false).1 k2
    have hv := ren_mv hs sA sB t ev
    have hg := ren_gone (src := src) hs k2 t
    have hT : Kit mi mb (k + 1) (s.1, tL s.2 (seekP s.2 base dst false).1 ev) ∧ entsN (tL s.2 (seekP s.2 base dst false).1 ev) ≤ k ∧ (tL s.2 (seekP s.2 base dst false).1 ev).length ≤ 1 + k := by
      unfold tL
      split
      · rename_i hb
        have g := hg hb
        have := un_ents (ev := ev) hs g
        have := un_len (ev := ev) hs g
        have := h.ents
        have := h.len
        exact ⟨kit_un h g, by omega, by omega⟩
      · exact ⟨h.more, h.ents, h.len⟩
    have hTs : SoundP mi mb s.1 (tL s.2 (seekP s.2 base dst false).1 ev) := hT.1.sound
    have m := mv_moved (e1 := e1) (e2 := e2) hTs hv
    have he := ents_mv hTs.rise (seekP s.2 base src false).1.dir (seekP s.2 base src false).1.name (seekP s.2 base src false).1.ino (seekP s.2 base dst false).1.dir (seekP s.2 base dst false).1.name e1 e2
    rw [hL]
    refine ⟨moved_sound hTs hv m, ?_, ?_, fun i => ?_, by have := h.next; show s.1 ≤ _; omega⟩
    · have := m.len; have := hT.2.2; show (mvL _ _ _ _ _ _ _ _).length ≤ _; omega
    · have := hT.2.1
      show entsN (mvL _ _ _ _ _ _ _ _) ≤ k + 1
      omega
    · show (getN (mvL _ _ _ _ _ _ _ _) i).data.length ≤ 300
      rw [(m.same i).2.2.2]
      exact hT.1.data i
  · rw [ren_bad h0]; exact h.more
/-- What a call makes is sound and small, and what is refused is as it was. -/
theorem do_kit {mi mb : Int} {k : Nat} {s : St} (h : Kit mi mb k s) (hk : k ≤ 30) {base : List UInt8} {c : CallV} (hd : c.data.length ≤ 300) (ev e1 e2 : Go.Value) :
    Kit mi mb (k + 1) (doF mi mb s base c ev e1 e2).1 ∧ ((doF mi mb s base c ev e1 e2).2 ≠ 0 → (doF mi mb s base c ev e1 e2).1 = s) := by
  unfold doF
  split
  · exact kit_put h hk (.inr (.inl rfl)) (fun _ => rfl) (fun e => absurd e (by decide)) (fun e => absurd rfl e) (fun _ => rfl) (Nat.zero_le _)
  split
  · exact kit_put h hk (.inl rfl) (fun e => absurd e (by decide)) (fun e => absurd e (by decide)) (fun _ => by decide) (fun e => absurd e (by decide)) hd
  split
  · exact kit_write h hk hd
  split
  · exact kit_sym h hk hd
  split
  · exact kit_link h
  split
  · rcases unlink_gone (ev := ev) (base := base) (p := c.a) h.sound with e | ⟨d, n, i, hg, e⟩
    · rw [e]; exact ⟨h.more, fun _ => rfl⟩
    · rw [e]; exact ⟨kit_un h hg, fun h0 => absurd rfl h0⟩
  split
  · rcases rmdir_gone (ev := ev) (base := base) (p := c.a) h.sound with e | ⟨d, n, i, hg, e⟩
    · rw [e]; exact ⟨h.more, fun _ => rfl⟩
    · rw [e]; exact ⟨kit_un h hg, fun h0 => absurd rfl h0⟩
  split
  · exact kit_ren h hk
  · exact ⟨h.more, fun _ => rfl⟩
/-- An empty file system. -/
theorem root_kit {i b : Int} (h1 : 1 ≤ i) (h2 : i ≤ 1073741824) (h3 : 0 ≤ b) (h4 : b ≤ 1073741824) : Kit i b 0 (2, [rootN]) := by
  have hc : checkN i b 2 [rootN] = 0 := by
    refine check_zero.2 ⟨?_, by kernel_rfl, by kernel_rfl, by kernel_rfl, by kernel_rfl, ?_⟩
    · simp only [firstB, Bool.and_eq_true]
      refine ⟨⟨?_, ?_⟩, ?_⟩
      · unfold limB; simp; omega
      · kernel_rfl
      · kernel_rfl
    · unfold fitsB; simp [bytesN, rootN, costN]; omega
  refine ⟨sound_of hc, by decide, by decide, fun j => ?_, by decide⟩
  unfold getN
  show ((([rootN].find? _).getD _)).data.length ≤ 300
  cases h : [rootN].find? (fun e => e.ino == j) with
  | none => exact Nat.zero_le _
  | some x =>
    have := List.mem_of_find?_eq_some h
    rw [List.mem_singleton.1 this]
    exact Nat.zero_le _
end Go.Proofs.YtkdmfeikikmiiaaGreat
namespace Go.Proofs.YtkdmfeikikmiiaaGreat
open Go.ChangeShapes Go.WideShapes Go.ChangeAt Go.RowKit
set_option maxRecDepth 100000
theorem laidOut : laidOutB Tryz.prog = true := by kernel_rfl
theorem size_int : Tryz.prog.cellsOf 3 = 1 := by kernel_rfl
theorem size_str : Tryz.prog.cellsOf 9 = 1 := by kernel_rfl
instance : Inhabited Nd := ⟨zeroN⟩
end Go.Proofs.YtkdmfeikikmiiaaGreat
namespace Go.Proofs.YtkdmfeikikmiiaaGreat
section
variable {a b : List Nd}
end
end Go.Proofs.YtkdmfeikikmiiaaGreat
namespace Go.Proofs.YtkdmfeikikmiiaaGreat
/-- The state, and the errors, behind the first k calls. -/
def RanN (mi mb : Int) (base : List UInt8) (s0 : St) (cs : List CallV) : Nat → St → List Int → Prop
  | 0, s, es => s = s0 ∧ es = []
  | k + 1, s, es => ∃ c s' es' ev e1 e2, cs[k]? = some c ∧ RanN mi mb base s0 cs k s' es' ∧ s = (doF mi mb s' base c ev e1 e2).1 ∧ es = es' ++ [(doF mi mb s' base c ev e1 e2).2]
theorem ran_next {mi mb : Int} {base : List UInt8} {s0 : St} {cs : List CallV} {k : Nat} {s : St} {es : List Int} {c : CallV} (hc : cs[k]? = some c) (h : RanN mi mb base s0 cs k s es) (ev e1 e2 : Go.Value) :
    RanN mi mb base s0 cs (k + 1) (doF mi mb s base c ev e1 e2).1 (es ++ [(doF mi mb s base c ev e1 e2).2]) := ⟨c, s, es, ev, e1, e2, hc, h, rfl, rfl⟩
theorem ran_len {mi mb : Int} {base : List UInt8} {s0 : St} {cs : List CallV} : ∀ {k : Nat} {s : St} {es : List Int}, RanN mi mb base s0 cs k s es → es.length = k
  | 0, _, _, h => by rw [h.2]; rfl
  | k + 1, _, _, h => by
    obtain ⟨c, s', es', ev, e1, e2, _, h2, _, rfl⟩ := h
    rw [List.length_append, ran_len h2]; rfl
theorem ran_kit {mi mb : Int} {base : List UInt8} {s0 : St} {cs : List CallV} {n : Nat} (h0 : Kit mi mb n s0) (hd : ∀ c ∈ cs, c.data.length ≤ 300) : ∀ {k : Nat} {s : St} {es : List Int}, n + k ≤ 31 → RanN mi mb base s0 cs k s es → Kit mi mb (n + k) s
  | 0, _, _, _, h => by rw [h.1]; exact h0
  | k + 1, _, _, hk, h => by
    obtain ⟨c, s', es', ev, e1, e2, hc, h2, rfl, _⟩ := h
    exact (do_kit (ran_kit h0 hd (by omega) h2) (by omega) (hd c (List.mem_of_getElem? hc)) ev e1 e2).1
end Go.Proofs.YtkdmfeikikmiiaaGreat
namespace Go.Proofs.YtkdmfeikikmiiaaGreat
open Go.RowKit
section
variable {P : Program} {w : World}
end
end Go.Proofs.YtkdmfeikikmiiaaGreat
namespace Go.Proofs.YtkdmfeikikmiiaaGreat
def onF (l : List Nd) (fo : Bool) : Nat → Nat → Sp → List (List UInt8) → Bool → Option (Sp × Int)
  | 0, _, _, _, _ => none
  | k + 1, g, s, todo, dir =>
    match todo with
    | [] => some (if (hasN l s.ino && dir && (getN l s.ino).kind != 2) = true then (zeroS, 3) else (s, 0))
    | n :: r =>
      if s.ino = 0 then some (zeroS, 1)
      else if (getN l s.ino).kind = 2 then
        if n = [46] then onF l fo k g ⟨0, [], (getN l s.ino).ino⟩ r dir
        else if n = [46, 46] then onF l fo k g ⟨0, [], (getN l s.ino).parent⟩ r dir
        else if stopB l fo dir s.ino n r = true then onF l fo k g (stepS l s.ino n) r dir
        else match g with
          | 0 => some (zeroS, 6)
          | g + 1 => if longB (lnkD l s.ino n) = true then some (zeroS, 7)
            else onF l fo k g ⟨0, [], if absB (lnkD l s.ino n) = true then 1 else (getN l s.ino).ino⟩ (namesB (lnkD l s.ino n) ++ r) (dir || (slashB (lnkD l s.ino n) && r.isEmpty))
      else some (zeroS, 3)
theorem onF_eq {l : List Nd} {fo : Bool} (k : Nat) : ∀ {g : Nat} {s : Sp} {todo : List (List UInt8)} {dir : Bool} {r : Sp × Int}, onF l fo k g s todo dir = some r → onN l fo g s todo dir = r := by
  induction k with
  | zero => intro g s todo dir r h; cases h
  | succ k ih =>
    intro g s todo dir r h
    cases todo with
    | nil => rw [on_nil]; exact Option.some.inj h
    | cons n t =>
      unfold onF at h
      dsimp only at h
      by_cases h0 : s.ino = 0
      · rw [if_pos h0] at h; rw [on_gone h0]; exact Option.some.inj h
      rw [if_neg h0] at h
      by_cases hk : (getN l s.ino).kind = 2
      · rw [if_pos hk] at h
        by_cases h1 : n = [46]
        · rw [if_pos h1] at h; rw [on_dot h0 hk h1]; exact ih h
        rw [if_neg h1] at h
        by_cases h2 : n = [46, 46]
        · rw [if_pos h2] at h; rw [on_dots h0 hk h2]; exact ih h
        rw [if_neg h2] at h
        cases h3 : stopB l fo dir s.ino n t
        · rw [if_neg (by rw [h3]; simp)] at h
          cases g with
          | zero => rw [on_loop h0 hk h1 h2 h3]; exact Option.some.inj h
          | succ g =>
            cases h4 : longB (lnkD l s.ino n)
            · dsimp only at h
              rw [if_neg (by rw [h4]; simp)] at h
              rw [on_link h0 hk h1 h2 h3 h4]; exact ih h
            · dsimp only at h
              rw [if_pos h4] at h
              rw [on_long h0 hk h1 h2 h3 h4]; exact Option.some.inj h
        · rw [if_pos h3] at h
          rw [on_stop h0 hk h1 h2 h3]; exact ih h
      · rw [if_neg hk] at h; rw [on_file h0 hk]; exact Option.some.inj h
def seekF (k : Nat) (l : List Nd) (base p : List UInt8) (fo : Bool) : Option (Sp × Int) :=
  if p = [] then some (zeroS, 1) else if longB p = true then some (zeroS, 7)
  else if absB p = true then onF l fo k 40 rootS (namesB p) (slashB p)
  else if (homeP l base).2 ≠ 0 then some (zeroS, (homeP l base).2)
  else onF l fo k 40 ⟨0, [], (homeP l base).1⟩ (namesB p) (slashB p)
theorem seekF_eq (k : Nat) {l : List Nd} {base p : List UInt8} {fo : Bool} {r : Sp × Int} (h : seekF k l base p fo = some r) : seekP l base p fo = r := by
  unfold seekF at h
  unfold seekP
  split
  · rename_i h0; rw [if_pos h0] at h; exact Option.some.inj h
  rename_i h0
  rw [if_neg h0] at h
  split
  · rename_i h1; rw [if_pos h1] at h; exact Option.some.inj h
  rename_i h1
  rw [if_neg h1] at h
  split
  · rename_i h2; rw [if_pos h2] at h; exact onF_eq k h
  rename_i h2
  rw [if_neg h2] at h
  split
  · rename_i h3; rw [if_pos h3] at h; exact Option.some.inj h
  rename_i h3
  rw [if_neg h3] at h; exact onF_eq k h
def putE (r : Sp × Int) (mi mb nx : Int) (l : List Nd) (p : List UInt8) (k : Int) (data : List UInt8) (refused : Int) (ev : Go.Value) : (Int × List Nd) × Int :=
  if r.2 ≠ 0 then ((nx, l), r.2) else if r.1.ino ≠ 0 then ((nx, l), 2) else if refused ≠ 0 ∧ slashB p = true then ((nx, l), refused) else newF mi mb nx l r.1 k data ev
theorem putF_eq (n : Nat) {mi mb nx : Int} {l : List Nd} {base p data : List UInt8} {k refused : Int} {ev : Go.Value} {r : Sp × Int} (h : seekF n l base p false = some r) : putF mi mb nx l base p k data refused ev = putE r mi mb nx l p k data refused ev := by
  unfold putF putE; rw [seekF_eq n h]
def unlinkE (r : Sp × Int) (l : List Nd) (ev : Go.Value) : List Nd × Int :=
  if r.2 ≠ 0 then (l, r.2) else if r.1.ino = 0 then (l, 1) else if (getN l r.1.ino).kind = 2 then (l, 4) else (unL l r.1.dir r.1.name r.1.ino ev, 0)
theorem unlinkF_eq (n : Nat) {l : List Nd} {base p : List UInt8} {ev : Go.Value} {r : Sp × Int} (h : seekF n l base p false = some r) : unlinkF l base p ev = unlinkE r l ev := by unfold unlinkF unlinkE; rw [seekF_eq n h]
end Go.Proofs.YtkdmfeikikmiiaaGreat
namespace Go.Proofs.YtkdmfeikikmiiaaGreat
open Go.RowKit
theorem refSame_any (la lb : List Ent) (va vb : Value) (w : World) (ha : Ents w va la) (hb : Ents w vb lb) :
    Calls Tryz.prog 63 #[va, vb] w fun e w' => e = .returned (.bool (decide (la = lb))) ∧ Below w.heap.size w w' := by
  obtain ⟨a, ca, rfl, hca, hma, HA⟩ := ha
  obtain ⟨b, cb, rfl, hcb, hmb, HB⟩ := hb
  unfold maxLen at hma hmb
  by_cases hl : la.length = lb.length
  · have HA' := Lib.hid HA
    have HB' := Lib.hid HB
    clear HA HB
    have hne : ((la.length : Int) != (lb.length : Int)) = false := by simp; omega
    have HL := Lib.hid hl
    have hl2 : la.length ≤ lb.length := by omega
    clear hl
    go_enter Tryz.func63, Tryz.ntmps63
    go_wp2
    go_loopw [5] (fun i wr => ∃ k : Nat, k ≤ la.length ∧ i = .int .i64 k ∧ Aside (la.take k = lb.take k) ∧ Below w.heap.size w wr) (fun i _ => la.length - (intOf i).toNat)
    case atStart => exact ⟨0, Nat.zero_le _, rfl, rfl, Below.refl _ _⟩
    case round =>
      obtain ⟨k, hk, rfl, HT, hbw⟩ := hrel
      by_cases hlt : k < la.length
      · have hltb : k < lb.length := by omega
        obtain ⟨ba, oa, rfl, hba, hxa⟩ := HA'.out (by omega)
        obtain ⟨bb, ob, rfl, hbb, hxb⟩ := HB'.out (by omega)
        have c1 : wr.cell? ⟨ba, oa + k * 2, none⟩ = some (.string ⟨la[k].1.toArray⟩) := (hbw.cell (p := ⟨ba, oa + k * 2, none⟩) hba).trans (hxa k hlt).1
        have c2 : wr.cell? ⟨ba, oa + k * 2 + 1, none⟩ = some (.int .i64 la[k].2) := (hbw.cell (p := ⟨ba, oa + k * 2 + 1, none⟩) hba).trans (hxa k hlt).2
        have c3 : wr.cell? ⟨bb, ob + k * 2, none⟩ = some (.string ⟨lb[k].1.toArray⟩) := (hbw.cell (p := ⟨bb, ob + k * 2, none⟩) hbb).trans (hxb k hltb).1
        have c4 : wr.cell? ⟨bb, ob + k * 2 + 1, none⟩ = some (.int .i64 lb[k].2) := (hbw.cell (p := ⟨bb, ob + k * 2 + 1, none⟩) hbb).trans (hxb k hltb).2
        clear hxa hxb
        have k0 : (0 : Int) ≤ (k : Int) := by omega
        have k1 : (k : Int) < (la.length : Int) := by omega
        have k2 : (k : Int) < (lb.length : Int) := by omega
        cases he : la[k].1 == lb[k].1
        · have hne2 : Hid (decide (la = lb) = false) := by
            show _ = _
            rw [decide_eq_false_iff_not]
            intro e
            subst e
            simp at he
          go_wp2
          go_quiet (fail)
          go_wp2
          go_ret
          exact ⟨by rw [hne2.out]; rfl, below_drewN hbw _⟩
        · cases hn : la[k].2 == lb[k].2
          · have hne2 : Hid (decide (la = lb) = false) := by
              show _ = _
              rw [decide_eq_false_iff_not]
              intro e
              subst e
              simp at hn
            go_wp2
            go_quiet (fail)
            go_wp2
            go_ret
            exact ⟨by rw [hne2.out]; rfl, below_drewN hbw _⟩
          · have HT2 : Hid (la.take (k + 1) = lb.take (k + 1)) := by
              show _ = _
              rw [List.take_succ_eq_append_getElem hlt, List.take_succ_eq_append_getElem hltb, HT.out]
              rw [beq_iff_eq] at he hn
              rw [show la[k] = lb[k] from Prod.ext he hn]
            go_wp2
            go_quiet (fail)
            go_wp2
            go_roundw
            case rel => exact ⟨k + 1, by omega, by go_num, HT2.out, below_drewN hbw _⟩
            case measure => simp [intOf]; omega
      · obtain rfl : k = la.length := by omega
        have heq : Hid (decide (la = lb) = true) := by
          show _ = _
          rw [decide_eq_true_eq]
          have := HT.out
          rw [List.take_length, HL.out, List.take_length] at this
          exact this
        clear HT
        go_wp2
        go_ret
        exact ⟨by rw [heq.out]; rfl, hbw⟩
  · have hne : ((la.length : Int) != (lb.length : Int)) = true := by rw [bne_iff_ne]; omega
    have hd : Hid (decide (la = lb) = false) := by
      show _ = _
      rw [decide_eq_false_iff_not]; rintro rfl; exact hl rfl
    clear HA HB
    go_enter Tryz.func63, Tryz.ntmps63
    go_wp2
    go_ret
    exact ⟨by rw [hd.out]; rfl, Below.refl _ _⟩
set_option maxHeartbeats 2000000 in
theorem refOne_any (x y : Nd) (w : World) (hx : Ents w x.ev x.ents) (hy : Ents w y.ev y.ents) :
    Calls Tryz.prog 34 #[.agg (ndC x), .agg (ndC y)] w fun e w' => e = .returned (.bool (oneB x y)) ∧ Below w.heap.size w w' := by
  have hB : Below w.heap.size w ((w.alloc (.cells (ndC x) 49)).alloc (.cells (ndC y) 49)) := ((Below.refl _ w).alloc (Nat.le_refl _) _).alloc (by simp) _
  have hx2 := hx.below hB
  have hy2 := hy.below hB
  clear hx hy
  obtain ⟨xi, xk, xl, xd, xp, xe, xn⟩ := x
  obtain ⟨yi, yk, yl, yd, yp, ye, yn⟩ := y
  dsimp only at hx2 hy2
  obtain ⟨a, ca, rfl, _⟩ := id hx2
  obtain ⟨b, cb, rfl, _⟩ := id hy2
  cases h1 : (xi == yi) with | false => (have HN := Lib.hid (oneB_no1 (a := ⟨xi, xk, xl, xd, xp, .slice a xn.length ca, xn⟩) (b := ⟨yi, yk, yl, yd, yp, .slice b yn.length cb, yn⟩) h1); go_enter Tryz.func34, Tryz.ntmps34; go_wp2; go_ret; exact ⟨ret_bool (by rw [HN.out]), hB⟩) | true => (cases h2 : (xk == yk) with | false => (have HN := Lib.hid (oneB_no2 (a := ⟨xi, xk, xl, xd, xp, .slice a xn.length ca, xn⟩) (b := ⟨yi, yk, yl, yd, yp, .slice b yn.length cb, yn⟩) h2); go_enter Tryz.func34, Tryz.ntmps34; go_wp2; go_ret; exact ⟨ret_bool (by rw [HN.out]), hB⟩) | true => (cases h3 : (xl == yl) with | false => (have HN := Lib.hid (oneB_no3 (a := ⟨xi, xk, xl, xd, xp, .slice a xn.length ca, xn⟩) (b := ⟨yi, yk, yl, yd, yp, .slice b yn.length cb, yn⟩) h3); go_enter Tryz.func34, Tryz.ntmps34; go_wp2; go_ret; exact ⟨ret_bool (by rw [HN.out]), hB⟩) | true => (cases h4 : (xd == yd) with | false => (have HN := Lib.hid (oneB_no4 (a := ⟨xi, xk, xl, xd, xp, .slice a xn.length ca, xn⟩) (b := ⟨yi, yk, yl, yd, yp, .slice b yn.length cb, yn⟩) h4); go_enter Tryz.func34, Tryz.ntmps34; go_wp2; go_ret; exact ⟨ret_bool (by rw [HN.out]), hB⟩) | true => (cases h5 : (xp == yp) with | false => (have HN := Lib.hid (oneB_no5 (a := ⟨xi, xk, xl, xd, xp, .slice a xn.length ca, xn⟩) (b := ⟨yi, yk, yl, yd, yp, .slice b yn.length cb, yn⟩) h5); go_enter Tryz.func34, Tryz.ntmps34; go_wp2; go_ret; exact ⟨ret_bool (by rw [HN.out]), hB⟩) | true => (have HN := Lib.hid (oneB_ents (a := ⟨xi, xk, xl, xd, xp, .slice a xn.length ca, xn⟩) (b := ⟨yi, yk, yl, yd, yp, .slice b yn.length cb, yn⟩) h1 h2 h3 h4 h5); go_enter Tryz.func34, Tryz.ntmps34; go_wp2_with fail; refine (refSame_any xn yn _ _ _ hx2 hy2).mono ?_; rintro e w2 ⟨rfl, b2⟩; go_wp2; go_ret; exact ⟨ret_bool (by rw [HN.out]), hB.trans (b2.mono hB.size)⟩)))))
set_option maxHeartbeats 2000000 in
set_option maxRecDepth 100000 in
theorem refOnes_any (la lb : List Nd) (va vb : Value) (w : World) (ha : Nds w va la) (hb : Nds w vb lb) :
    Calls Tryz.prog 18 #[va, vb] w fun e w' => e = .returned (.bool (onesB la lb)) ∧ Below w.heap.size w w' := by
  obtain ⟨a, ca, rfl, hca, hma, hea, _, HA⟩ := ha
  obtain ⟨b, cb, rfl, hcb, hmb, heb, _, HB⟩ := hb
  unfold maxLen at hma hmb
  by_cases hl : la.length = lb.length
  · have HA' := Lib.hid HA
    have HB' := Lib.hid HB
    have HEA := Lib.hid hea
    have HEB := Lib.hid heb
    clear HA HB hea heb
    have hne : ((la.length : Int) != (lb.length : Int)) = false := by simp; omega
    have HL := Lib.hid hl
    have hl2 : la.length ≤ lb.length := by omega
    clear hl
    go_enter Tryz.func18, Tryz.ntmps18
    go_wp2
    go_loopw [5] (fun i wr => ∃ k : Nat, k ≤ la.length ∧ i = .int .i64 k ∧ Aside ((la.take k).map Nd.key = (lb.take k).map Nd.key) ∧ Below w.heap.size w wr) (fun i _ => la.length - (intOf i).toNat)
    case atStart => exact ⟨0, Nat.zero_le _, rfl, rfl, Below.refl _ _⟩
    case round =>
      obtain ⟨k, hk, rfl, HT, hbw⟩ := hrel
      by_cases hlt : k < la.length
      · have hltb : k < lb.length := by omega
        obtain ⟨ba, oa, rfl, hba, hxa⟩ := HA'.out (by omega)
        obtain ⟨bb, ob, rfl, hbb, hxb⟩ := HB'.out (by omega)
        obtain ⟨c0, c1, c2, c3, c4, c5⟩ := (hxa k hlt).below hbw hba
        obtain ⟨d0, d1, d2, d3, d4, d5⟩ := (hxb k hltb).below hbw hbb
        clear hxa hxb
        have k0 : (0 : Int) ≤ (k : Int) := by omega
        have k1 : (k : Int) < (la.length : Int) := by omega
        have k2 : (k : Int) < (lb.length : Int) := by omega
        go_upto_region 6 with fail
        go_still_tail 8, (by kernel_rfl)
        change wpList _ _ _ _ _ wr.drew
        generalize hwd : wr.drew = w2
        have hB2 : Below w.heap.size w w2 := by rw [← hwd]; exact hbw.drew
        have hea := HEA.out.below hB2
        have heb := HEB.out.below hB2
        clear hwd c0 c1 c2 c3 c4 c5 d0 d1 d2 d3 d4 d5
        go_wp2_with fail
        refine (refOne_any la[k] lb[k] _ (hea _ (List.getElem_mem hlt)) (heb _ (List.getElem_mem hltb))).mono ?_
        rintro e w3 ⟨rfl, b3⟩
        have hB3 := hB2.trans (b3.mono hB2.size)
        clear hea heb hB2 b3
        cases ho : oneB la[k] lb[k]
        · have HN := Lib.hid (onesB_no hlt hltb ho)
          go_wp2
          go_ret
          exact ⟨ret_bool (by rw [HN.out]), hB3⟩
        · have HT2 := Lib.hid (onesB_next hlt hltb HT.out ho)
          go_wp2
          go_roundw
          case rel => exact ⟨k + 1, by omega, by go_num, HT2.out, hB3⟩
          case measure => simp [intOf]; omega
      · obtain rfl : k = la.length := by omega
        have HN := Lib.hid (onesB_end HL.out HT.out)
        clear HT
        go_wp2
        go_ret
        exact ⟨ret_bool (by rw [HN.out]), hbw⟩
  · have hne : ((la.length : Int) != (lb.length : Int)) = true := by rw [bne_iff_ne]; omega
    have HN := Lib.hid (onesB_len hl)
    clear HA HB hea heb
    go_enter Tryz.func18, Tryz.ntmps18
    go_wp2
    go_ret
    exact ⟨ret_bool (by rw [HN.out]), Below.refl _ _⟩
/-- Are two tables alike? -/
def tabB (ma ba na : Int) (la : List Nd) (mb bb nb : Int) (lb : List Nd) : Bool := (ma == mb) && (ba == bb) && (na == nb) && onesB la lb
theorem refTab_any (ma ba na mb bb nb : Int) (la lb : List Nd) (va vb : Value) (w : World) (ha : Nds w va la) (hb : Nds w vb lb) :
    Calls Tryz.prog 13 #[.agg (fsC ma ba na va), .agg (fsC mb bb nb vb)] w fun e w' => e = .returned (.bool (tabB ma ba na la mb bb nb lb)) ∧ Below w.heap.size w w' := by
  obtain ⟨a, ca, rfl, _⟩ := id ha
  obtain ⟨b, cb, rfl, _⟩ := id hb
  have hB : Below w.heap.size w ((w.alloc (.cells (fsC ma ba na (.slice a la.length ca)) 28)).alloc (.cells (fsC mb bb nb (.slice b lb.length cb)) 28)) := ((Below.refl _ w).alloc (Nat.le_refl _) _).alloc (by simp) _
  have ha2 := ha.below hB
  have hb2 := hb.below hB
  clear ha hb
  cases h1 : (ma == mb) with | false => (have HN : Hid (tabB ma ba na la mb bb nb lb = false) := (by (show _ = _); simp only [tabB, h1, Bool.false_and]); go_enter Tryz.func13, Tryz.ntmps13; go_wp2; go_ret; exact ⟨ret_bool (by rw [HN.out]), hB⟩) | true => (cases h2 : (ba == bb) with | false => (have HN : Hid (tabB ma ba na la mb bb nb lb = false) := (by (show _ = _); simp only [tabB, h2, Bool.false_and, Bool.and_false]); go_enter Tryz.func13, Tryz.ntmps13; go_wp2; go_ret; exact ⟨ret_bool (by rw [HN.out]), hB⟩) | true => (cases h3 : (na == nb) with | false => (have HN : Hid (tabB ma ba na la mb bb nb lb = false) := (by (show _ = _); simp only [tabB, h3, Bool.false_and, Bool.and_false]); go_enter Tryz.func13, Tryz.ntmps13; go_wp2; go_ret; exact ⟨ret_bool (by rw [HN.out]), hB⟩) | true => (have HN : Hid (tabB ma ba na la mb bb nb lb = onesB la lb) := (by (show _ = _); simp only [tabB, h1, h2, h3, Bool.true_and]); go_enter Tryz.func13, Tryz.ntmps13; go_wp2_with fail; refine (refOnes_any la lb _ _ _ ha2 hb2).mono ?_; rintro e w2 ⟨rfl, b2⟩; go_wp2; go_ret; exact ⟨ret_bool (by rw [HN.out]), hB.trans (b2.mono hB.size)⟩)))
end Go.Proofs.YtkdmfeikikmiiaaGreat
