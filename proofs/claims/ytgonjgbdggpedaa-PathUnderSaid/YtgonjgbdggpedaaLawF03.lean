/- For every two lists of texts: of the names among them, and more behind them, the one path lies below the other; the other way only if there are no more; and each lies below the root (no condition). -/
import Derived.Test.YtgonjgbdggpedaaLawBase03
import Derived.Deep.LoopGhost
namespace Go.Proofs.Ytgonjgbdggpedaa
open Go.ChangeShapes Go.WideShapes Go.ChangeAt Go.RowKit
open Go.ChangeMaps (open_string shut_string)
set_option linter.unusedVariables false

theorem under_twice (l m : List (List UInt8)) (v u : Value) (w : World) (hv : Strs w v l) (hu : Strs w u m) (h : fewB l = false ∨ fewB m = false) :
    Calls Try.prog 8 #[v, u] w fun e w' => e = .returned (.bool true) ∧ Below w.heap.size w w' := by
  go_enter Try.func8, Try.ntmps8
  go_wp2_with fail; refine (awake_any _).mono ?_; rintro e w1 ⟨rfl, b1⟩
  go_wp2_with fail; refine (Few_any l v _ (hv.below b1)).mono ?_; rintro e w2 ⟨rfl, rfl⟩
  cases hf : fewB l
  · go_wp2_with fail; refine (awake_any _).mono ?_; rintro e w2 ⟨rfl, b2⟩
    go_wp2
    go_ret
    exact ⟨rfl, b1.trans (b2.mono b1.size)⟩
  · have h2 : fewB m = false := h.resolve_left (by simp [hf])
    clear h
    go_wp2_with fail; refine (Few_any m u _ (hu.below b1)).mono ?_; rintro e w2 ⟨rfl, rfl⟩
    rw [h2]
    go_wp2_with fail; refine (awake_any _).mono ?_; rintro e w2 ⟨rfl, b2⟩
    go_wp2
    go_ret
    exact ⟨rfl, b1.trans (b2.mono b1.size)⟩

theorem wpList_append_eq {P : Program} {w : World} {ops : Array Oper} {rest : List Oper} {o : Oper} {a : Act} {Q : Exit → Act → World → Prop} (hgd : o.guard = none) (s x : Operand) (t : TypeId)
    (ho : o.op = .call { callee := .builtin .append, args := #[s, x], argTypes := #[t, t] }) {v' : Value} {w' : World} (hrun : (Builtin.append_ #[t, t] o.type #[a.eval s, a.eval x]).run P w = .ok v' w')
    (hK : wpList P ops Q rest (a.put o.dst v') w') : wpList P ops Q (o :: rest) a w := by
  refine wpList_plain hgd fun K hK' => ?_
  unfold Oper.wp execOp
  simp only [ho, resolve, invoke, builtin, Sem.run_bind, Sem.run_pure, Result.andThen_ok, List.map_toArray, List.map_cons, List.map_nil, hrun]
  exact hK' _ _ hK

/-- 'append([]string(nil), a...)': new memory that reads as a does. -/
theorem append_all {w : World} {base : Nat} {v : Value} {l : List (List UInt8)} (ty : TypeId) (hl : l.length ≤ 1000000) (hown : w.ownsRow base 9 1 v l.length (strsV l)) (hz : l = [] → v = .slice none 0 0) :
    ∃ v' w', (Builtin.append_ #[24, 24] ty #[.slice none 0 0, v]).run Try.prog w = .ok v' w' ∧ w'.ownsRow w.heap.size 9 1 v' l.length (strsV l) ∧ Below w.heap.size w w' := by
  obtain ⟨is, hsi, hs0, hs1, hs2⟩ := info_parts Try.infoS2
  by_cases h : l = []
  · rw [hz h]
    subst h
    refine ⟨.slice none 0 0, w, ?_, World.ownsRow_nil _ _ _ _, Below.refl _ _⟩
    simp [Builtin.append_, run_underlying Try.underlying24, sizeOf, typeInfo, hsi, Builtin.firstCells, Builtin.lenOf]
  · obtain ⟨k, hk⟩ : ∃ k, l.length = k + 1 := ⟨l.length - 1, by have := List.length_pos_iff.2 h; omega⟩
    have hown2 := hown
    rw [hk] at hown2
    obtain ⟨g, cap, rfl⟩ := ownsRow_succ hown2
    rw [← hk] at *
    obtain ⟨v', w', hr, r1, r2, _⟩ := run_append_own (P := Try.prog) w w.heap.size 24 ty 9 is (.string ByteArray.empty) 1 16 Try.underlying24 hsi hs0 hs1 hs2 rfl (by decide) (.slice none 0 0) 0 [] (World.ownsRow_nil _ _ _ _) ⟨g, 0, none⟩ l.length cap (strsV l)
      (by simp [strsV]) (fun j u hu => World.ownsRow.cells hown (g := g) rfl j u hu) (fun u hu => by obtain ⟨_, _, rfl⟩ := List.mem_map.1 hu; rfl) (by unfold maxLen; omega) (by omega) (Nat.le_refl _)
    exact ⟨v', w', hr, by simpa using r1, (Below.refl w.heap.size w).grown r2 (Nat.le_refl _) (fun k hk => by cases hk)⟩

theorem mays_take (l : List (List UInt8)) (k : Nat) (h : k < l.length) : (l.take (k + 1)).filter mayB = if mayB l[k] then (l.take k).filter mayB ++ [l[k]] else (l.take k).filter mayB := by
  rw [List.take_succ_eq_append_getElem h, List.filter_append]
  cases hm : mayB l[k] <;> simp [hm]
theorem mays_good (l : List (List UInt8)) : goodB (l.filter mayB) := fun n hn => mayB_good (List.mem_filter.1 hn).2

set_option maxHeartbeats 4000000 in
theorem lawUnder (l m : List (List UInt8)) (v u : Value) (w : World) (hv : Strs w v l) (hu : Strs w u m) :
    Calls Try.prog 8 #[v, u] w fun e w' => e = .returned (.bool true) ∧ Below w.heap.size w w' := by
  cases hf : fewB l
  · exact under_twice l m v u w hv hu (.inl hf)
  cases hg : fewB m
  · exact under_twice l m v u w hv hu (.inr hg)
  obtain ⟨l40, l300⟩ := fewB_small hf
  obtain ⟨m40, m300⟩ := fewB_small hg
  have HL := Lib.hid l300
  have HM := Lib.hid m300
  clear l300 m300
  obtain ⟨is, hsi, hs0, hs1, hs2⟩ := info_parts Try.infoS2
  go_enter Try.func8, Try.ntmps8
  go_wp2_with fail; refine (awake_any _).mono ?_; rintro e w1 ⟨rfl, b1⟩
  go_wp2_with fail; refine (Few_any l v _ (hv.below b1)).mono ?_; rintro e w2 ⟨rfl, rfl⟩
  rw [hf]
  go_wp2_with fail; refine (Few_any m u _ (hu.below b1)).mono ?_; rintro e w2 ⟨rfl, rfl⟩
  rw [hg]
  obtain ⟨a, ca, rfl, _, HA⟩ := hv
  obtain ⟨c, cc, rfl, _, HB⟩ := hu
  have HC := Lib.hid HA
  have HD := Lib.hid HB
  clear HA HB hf hg
  go_wp2
  go_loopg [5, 7] l.length (fun g s5 s7 wr => ∃ k : Nat, k + g = l.length ∧ s7 = .int .i64 k ∧ wr.ownsRow w.heap.size 9 1 s5 ((l.take k).filter mayB).length (strsV ((l.take k).filter mayB)) ∧ Aside ((l.take k).filter mayB = [] → s5 = .slice none 0 0) ∧ Below w.heap.size w wr)
  case atStart => exact ⟨0, by omega, rfl, World.ownsRow_nil _ _ _ _, fun _ => rfl, b1⟩
  case round =>
    obtain ⟨k, hkg, rfl, hown, HZ, hb⟩ := hrel
    have hcount : ((l.take k).filter mayB).length ≤ 40 := Nat.le_trans (List.length_filter_le _ _) (by simp; omega)
    by_cases hlt : k < l.length
    · obtain ⟨G, rfl⟩ : ∃ G, gk = G + 1 := ⟨gk - 1, by omega⟩
      obtain ⟨ba, oa, rfl, hba, hca⟩ := HC.out (by omega)
      have c1 : wr.cell? ⟨ba, oa + k, none⟩ = some (.string ⟨l[k].toArray⟩) := (hb.cell (p := ⟨ba, oa + k, none⟩) hba).trans (hca k hlt)
      clear hca
      have h300 := HL.out l[k] (List.getElem_mem hlt)
      have HT := Lib.hid (mays_take l k hlt)
      go_wp2_with fail; refine (May_any l[k] _ (by omega)).mono ?_; rintro e w3 ⟨rfl, b3⟩
      have hown3 := own_keep hown b3
      have c3 : w3.cell? ⟨ba, oa + k, none⟩ = some (.string ⟨l[k].toArray⟩) := (b3.cell (p := ⟨ba, oa + k, none⟩) (Nat.lt_of_lt_of_le hba hb.size)).trans c1
      have hb3 := hb.trans (b3.mono hb.size)
      clear hown hb c1 b3
      cases hm : mayB l[k]
      · have HN := Lib.hid (HT.out.trans (if_neg (by rw [hm]; simp)))
        go_wp2
        go_roundg G
        case measure => omega
        case rel => exact ⟨k + 1, by omega, by go_num, by rw [HN.out]; exact hown3, by rw [HN.out]; exact HZ.out, hb3⟩
      · have HN := Lib.hid (HT.out.trans (if_pos hm))
        go_wp2_with (at_builtin; refine wpList_append_new rfl (.tmp 35) (.tmp 40) 24 9 rfl Try.underlying24 hsi hs0 hs1 hs2 rfl (by decide) (by decide) w.heap.size _ 1 rfl rfl hown3 rfl (by simp [Value.oneCell']) (by omega) hb3.size ?_; intro v4 w4 hown4 hb4)
        go_roundg G
        case measure => omega
        case rel => exact ⟨k + 1, by omega, by go_num, by rw [HN.out]; simpa [strsV] using hown4, by rw [HN.out]; exact fun h => absurd h (by simp), hb3.trans hb4⟩
    · obtain rfl : k = l.length := by omega
      rw [List.take_length] at hown hcount
      have sA := own_strs hown
      have hz := HZ.out
      rw [List.take_length] at hz
      obtain ⟨v6, W1, hap, own6, hB1⟩ := append_all 24 (by omega) hown hz
      clear hz
      have hAl := Lib.hid (mays_good l)
      have hAj : Hid ((interB (l.filter mayB)).length ≤ 20000) := by
        have h1 := interB_len_tail (l.filter mayB)
        have h2 := tailB_len (l.filter mayB) 300 (fun n hn => HL.out n (List.mem_filter.1 hn).1)
        have h3 : (l.filter mayB).length * 301 ≤ 40 * 301 := Nat.mul_le_mul hcount (by omega)
        (show _ ≤ _); omega
      clear hown HZ
      generalize hA : l.filter mayB = A at *
      obtain ⟨aA, cA, hu5, hmA, HA5⟩ := id sA
      subst hu5
      clear hmA HA5
      go_wp2_with (at_builtin; refine wpList_append_eq rfl (.tmp 42) (.tmp 43) 24 rfl hap ?_)
      clear hap
      go_loopg [6, 8] m.length (fun g s6 s8 wx => ∃ k : Nat, k + g = m.length ∧ s8 = .int .i64 k ∧ wx.ownsRow wr.heap.size 9 1 s6 (A ++ (m.take k).filter mayB).length (strsV (A ++ (m.take k).filter mayB)) ∧ Below wr.heap.size wr wx)
      case atStart => exact ⟨0, by omega, rfl, by simpa using own6, hB1⟩
      case round =>
        obtain ⟨k, hkg, rfl, hown, hbx⟩ := hrel
        have hcount2 : ((m.take k).filter mayB).length ≤ 40 := Nat.le_trans (List.length_filter_le _ _) (by simp; omega)
        by_cases hlt : k < m.length
        · obtain ⟨G, rfl⟩ : ∃ G, gk = G + 1 := ⟨gk - 1, by omega⟩
          obtain ⟨ba, oa, rfl, hba, hca⟩ := HD.out (by omega)
          have c1 : wr.cell? ⟨ba, oa + k, none⟩ = some (.string ⟨m[k].toArray⟩) := (hbx.cell (p := ⟨ba, oa + k, none⟩) (Nat.lt_of_lt_of_le hba hb.size)).trans ((hb.cell (p := ⟨ba, oa + k, none⟩) hba).trans (hca k hlt))
          clear hca
          have h300 := HM.out m[k] (List.getElem_mem hlt)
          have HT := Lib.hid (mays_take m k hlt)
          go_wp2_with fail; refine (May_any m[k] _ (by omega)).mono ?_; rintro e w3 ⟨rfl, b3⟩
          have hown3 := own_keep hown b3
          have c3 : w3.cell? ⟨ba, oa + k, none⟩ = some (.string ⟨m[k].toArray⟩) := (b3.cell (p := ⟨ba, oa + k, none⟩) (Nat.lt_of_lt_of_le hba (Nat.le_trans hb.size hbx.size))).trans c1
          have hb3 := hbx.trans (b3.mono hbx.size)
          clear hown hbx c1 b3
          cases hm : mayB m[k]
          · have HN := Lib.hid (HT.out.trans (if_neg (by rw [hm]; simp)))
            go_wp2
            go_roundg G
            case measure => omega
            case rel => exact ⟨k + 1, by omega, by go_num, by rw [HN.out]; exact hown3, hb3⟩
          · have HN := Lib.hid (HT.out.trans (if_pos hm))
            have hsum : (A ++ (m.take k).filter mayB).length ≤ 80 := by rw [List.length_append]; omega
            go_wp2_with (at_builtin; refine wpList_append_new rfl (.tmp 56) (.tmp 61) 24 9 rfl Try.underlying24 hsi hs0 hs1 hs2 rfl (by decide) (by decide) _ _ 1 rfl rfl hown3 rfl (by simp [Value.oneCell']) (by omega) hb3.size ?_; intro v4 w4 hown4 hb4)
            go_roundg G
            case measure => omega
            case rel => exact ⟨k + 1, by omega, by go_num, by rw [HN.out]; simpa [strsV, Nat.add_assoc] using hown4, hb3.trans hb4⟩
        · obtain rfl : k = m.length := by omega
          rw [List.take_length] at hown hcount2
          have sB := own_strs hown
          have sA2 := sA.below hbx
          have hbB := hb.trans (hbx.mono hb.size)
          have hCg := Lib.hid (mays_good m)
          have hBj : Hid ((interB (A ++ m.filter mayB)).length ≤ 60000) := by
            have h1 := interB_len_tail (A ++ m.filter mayB)
            have h2 := tailB_len (A ++ m.filter mayB) 300 (fun n hn => (List.mem_append.1 hn).elim (fun h => by rw [← hA] at h; exact HL.out n (List.mem_filter.1 h).1) (fun h => HM.out n (List.mem_filter.1 h).1))
            have h3 : (A ++ m.filter mayB).length * 301 ≤ 80 * 301 := Nat.mul_le_mul (by rw [List.length_append]; omega) (by omega)
            (show _ ≤ _); omega
          clear hown hb hbx sA
          obtain ⟨aB, cB, hu6, hmB, HB6⟩ := id sB
          subst hu6
          clear hmB HB6
          generalize m.filter mayB = C at *
          have hABl : (A ++ C).length ≤ 80 := by rw [List.length_append]; omega
          go_wp2_with fail; refine (Join_any A _ _ sA2 (by omega) (by have := hAj.out; omega)).mono ?_; rintro e w3 ⟨rfl, b3⟩
          have sB3 := sB.below b3
          rw [List.length_append] at sB3
          have hb3 := hbB.trans (b3.mono hbB.size)
          clear sA2 sB hbB b3
          go_wp2_with fail; refine (Join_any (A ++ C) _ _ sB3 (by omega) (by have := hBj.out; omega)).mono ?_; rintro e w4 ⟨rfl, b4⟩
          have hb4 := hb3.trans (b4.mono hb3.size)
          clear hb3 sB3 b4
          have U1 := Lib.hid (under_more A C)
          have U2 := Lib.hid (under_back A C hAl.out hCg.out)
          have U3 := Lib.hid (under_root (joinB A))
          have p1 : (joinB A).length ≤ 1000000 := by have := hAj.out; simp [joinB]; omega
          have p2 : (joinB (A ++ C)).length ≤ 1000000 := by have := hBj.out; rw [joinB, List.length_cons]; omega
          go_wp2_with fail; refine (Under_any (joinB (A ++ C)) (joinB A) _ p2 p1).mono ?_; rintro e w5 ⟨rfl, rfl⟩
          rw [U1.out]
          go_wp2_with fail; refine (Under_any (joinB A) (joinB (A ++ C)) _ p1 p2).mono ?_; rintro e w5 ⟨rfl, rfl⟩
          rw [U2.out]
          have he : decide (C = []) = ((A.length : Int) == (A.length : Int) + (C.length : Int)) := by
            rw [Bool.eq_iff_iff, decide_eq_true_eq, beq_iff_eq]
            constructor
            · rintro rfl; simp
            · intro h; exact List.eq_nil_of_length_eq_zero (by omega)
          go_wp2_with fail; refine (Under_any (joinB A) [47] _ p1 (by decide)).mono ?_; rintro e w5 ⟨rfl, rfl⟩
          rw [U3.out]
          go_wp2
          go_ret
          exact ⟨rfl, hb4⟩

namespace LPathUnder
set_option maxRecDepth 100000 in
theorem lifted (os : Os) (started : os.Started) (H : Type) (enc : TypeId × Value → H) :
    ReturnsInHanded {} Try.checked os 8 .any (Rows.pathUnderSpec.pre6 enc Try.prog Try.f8 Rows.pathUnderRow.domain false) (Rows.pathUnderSpec.post enc Try.prog Try.f8 false true false false) := by
  refine returnsInHanded_of_change (C := Try.checked) (by kernel_rfl) started (by kernel_rfl) Try.func8
    (ChangeSpec.witness6 (enc := enc) (C := Try.checked) false ⟨#[], #[.slice none 0 0, .slice none 0 0], []⟩ 8 (by kernel_rfl) (by kernel_rfl) (by kernel_rfl) (by kernel_rfl)) ?_
  intro W base args ds gs before hval0 hW hcnd _
  have hval : ∀ (j : Nat) t v, Try.f8.params[j]? = some t → args[j]? = some v → Value.okWide Try.prog W .any base t v := hval0
  have hW' := hW
  obtain ⟨p, q, hA0, hV, rfl, hfz, hnd⟩ := hW
  have hA : DataW.TrodAll enc Try.prog W 0 (fun _ => true) true Try.f8.params.toList args.toList ds p := hA0
  rw [Try.params8] at hA hval
  obtain ⟨v0, vs0, d0, ds0, p0, q0, hargs, rfl, rfl, k0, r0⟩ := trodAll_cons hA
  obtain ⟨v1, vs1, d1, ds1, p1, q1, rfl, rfl, rfl, k1, r1⟩ := trodAll_cons r0
  obtain ⟨rfl, rfl, rfl⟩ := trodAll_nil r1
  obtain rfl : args = #[v0, v1] := by cases args; simp_all
  obtain ⟨rfl, rfl⟩ := trodVars_none hV
  have ok0 := hval 0 24 v0 rfl rfl
  have ok1 := hval 1 24 v1 rfl rfl
  have lt0 : ∀ x ∈ p0, x.block < W.heap.size := by obtain ⟨m, hm⟩ := k0; exact DataW.trod_lt m _ _ _ hm
  have lt1 : ∀ x ∈ p1, x.block < W.heap.size := by obtain ⟨m, hm⟩ := k1; exact DataW.trod_lt m _ _ _ hm
  have C : Calls Try.prog 8 #[v0, v1] W fun e w' => e = .returned (.bool true) ∧ Below W.heap.size W w' := by
    clear hA0 hval0 hval hW' hcnd hV hfz hnd
    obtain ⟨l, hl⟩ := strs_of_trod ok0 k0
    obtain ⟨m, hm⟩ := strs_of_trod ok1 k1
    exact lawUnder l m _ _ W hl hm
  refine C.mono fun e W' ⟨he, bel⟩ => ?_
  subst he
  exact ⟨_, rfl, _, _, _, [], _, [], hW', trodAll_mk1 (shut_bool Try.underlying4 _), (trodAll_cons_mk (Below.trod laidOut (by kernel_rfl) (of_decide_eq_true (by kernel_rfl)) k0 bel lt0) (trodAll_cons_mk (Below.trod laidOut (by kernel_rfl) (of_decide_eq_true (by kernel_rfl)) k1 bel lt1) trodAll_mk0)), rfl, bel.frame _, fun h => by cases h⟩
theorem proved : Rows.PathUnderSaid :=
  OpenClaim.holds_of_wide 8 Try.f8 rfl rfl rfl rfl rfl rfl rfl ⟨rfl, rfl, rfl, rfl, rfl⟩ rfl rfl rfl rfl rfl (by kernel_rfl) Try.func8 (by kernel_rfl)
    (of_decide_eq_true (by kernel_rfl)) (by unfold Func.isWrapper; first | (rw [if_pos (by decide +kernel)]; kernel_rfl) | (rw [if_neg (by decide +kernel)]; exact ⟨rfl, rfl⟩))
    (fun os started H enc _ => lifted os started H enc)
#print axioms proved
end LPathUnder

end Go.Proofs.Ytgonjgbdggpedaa
