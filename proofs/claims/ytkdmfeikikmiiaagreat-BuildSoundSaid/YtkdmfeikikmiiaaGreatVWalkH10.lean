/- Walks: the program's way on. -/
import Derived.Test.YtkdmfeikikmiiaaGreatVMWalkD07
import Derived.Test.YtkdmfeikikmiiaaGreatVMSure14
import Derived.Test.YtkdmfeikikmiiaaGreatVMWalkB03
import Derived.Deep.LoopGhost
import Derived.WalkMore
import Derived.Deep.QuietTactic
import Derived.BigQuiet
set_option linter.unusedVariables false
set_option linter.unusedSimpArgs false
namespace Go.Proofs.YtkdmfeikikmiiaaGreat
open Go.RowKit
/-- What lies below m, or from n on, is as it was. -/
def KeepB (m n : Nat) (W X : World) : Prop := W.heap.size ≤ X.heap.size ∧ ∀ b, b < W.heap.size → (b < m ∨ n ≤ b) → X.heap[b]? = W.heap[b]?
theorem KeepB.of_below {m n : Nat} {W X : World} (h : Below W.heap.size W X) : KeepB m n W X := ⟨h.size, fun b hb _ => h.block b hb⟩
theorem KeepB.trans {m n : Nat} {W X Y : World} (h : KeepB m n W X) (h2 : KeepB m n X Y) : KeepB m n W Y := ⟨Nat.le_trans h.1 h2.1, fun b hb hm => (h2.2 b (Nat.lt_of_lt_of_le hb h.1) hm).trans (h.2 b hb hm)⟩
theorem KeepB.grown {m n B : Nat} {W X : World} (hg : W.grownBy X (some B)) (h1 : m ≤ B) (h2 : B < n) : KeepB m n W X :=
  ⟨hg.size, fun b hb hm => hg.block b hb (by intro e; have := Option.some.inj e; omega)⟩
/-- Texts that lie below m, or from n on. -/
def StrsK (m n : Nat) (W : World) (v : Value) (l : List (List UInt8)) : Prop := StrsC W v l ∧ ∀ a k c, v = .slice (some a) k c → 0 < l.length → a.block < m ∨ n ≤ a.block
theorem StrsK.keep {m n : Nat} {W X : World} {v : Value} {l : List (List UInt8)} (h : StrsK m n W v l) (k : KeepB m n W X) : StrsK m n X v l := by
  obtain ⟨⟨⟨a, c, rfl, hm, h1⟩, hc⟩, h2⟩ := h
  refine ⟨⟨⟨a, c, rfl, hm, fun hl => ?_⟩, hc⟩, h2⟩
  obtain ⟨b, o, rfl, hlt, hcl⟩ := h1 hl
  refine ⟨b, o, rfl, Nat.lt_of_lt_of_le hlt k.1, fun i hi => ?_⟩
  rw [← hcl i hi]
  unfold World.cell?
  rw [k.2 b hlt (h2 _ _ _ rfl hl)]
theorem StrsK.low {m n : Nat} {W : World} {v : Value} {l : List (List UInt8)} (h : StrsC W v l) (hm : W.heap.size ≤ m) : StrsK m n W v l := by
  refine ⟨h, fun a k c e hl => .inl ?_⟩
  obtain ⟨⟨a1, c1, rfl, _, h1⟩, _⟩ := h
  obtain ⟨b, o, rfl, hlt, _⟩ := h1 hl
  simp only [Value.slice.injEq, Option.some.injEq] at e
  obtain ⟨rfl, _⟩ := e
  exact Nat.lt_of_lt_of_le hlt hm
theorem StrsK.own {m n : Nat} {W : World} {base : Nat} {e : TypeId} {v : Value} {k : Nat} {l : List (List UInt8)} (h : W.ownsRow base e 1 v k (strsV l)) (hb : n ≤ base) : StrsK m n W v l := by
  refine ⟨own_strsC h, fun a k c e hl => .inr ?_⟩
  rcases own_cases h with ⟨rfl, _⟩ | ⟨g, cap, rfl, h1, _⟩
  · cases e
  · simp only [Value.slice.injEq, Option.some.injEq] at e
    obtain ⟨rfl, _⟩ := e
    exact Nat.le_trans hb h1
theorem strsK_rest {m n : Nat} {W : World} {b o k c M : Nat} {r : List (List UInt8)} (hb : b < W.heap.size) (hbk : b < m ∨ n ≤ b) (hcl : ∀ i (hi : i < r.length), W.cell? ⟨b, o + k + 1 + i, none⟩ = some (.string ⟨r[i].toArray⟩)) (hr : r.length = M - (k + 1)) (hk : k < M) (hlc : M ≤ c) (hc : c ≤ maxLen) :
    StrsK m n W (.slice (if c = k + 1 then some ⟨b, o, none⟩ else some ⟨b, o + (k + 1), none⟩) r.length (c - (k + 1))) r := by
  refine ⟨strs_rest hb hcl _ _ _ rfl (by omega) (by omega) (fun h => by split at h <;> cases h) (fun h => ?_), fun a k2 c2 e hl => ?_⟩
  · rw [if_neg (by omega)]; rfl
  · rw [if_neg (by omega)] at e
    simp only [Value.slice.injEq, Option.some.injEq] at e
    obtain ⟨rfl, _⟩ := e
    exact hbk
set_option maxHeartbeats 16000000 in
set_option maxRecDepth 100000 in
theorem lead_any (mi mb nx first : Int) (l : List Nd) (ns0 : List (List UInt8)) (ab sl0 fo : Bool) (v vn : Value) (w : World) (hv : Nds w v l) (hok : OkS mi mb nx l) (hd : isDir l first = true) (hN : StrsC w vn ns0) (hlen : ns0.length ≤ 100000) :
    Calls Tryz.prog 104 #[.agg (fsC mi mb nx v), .int .i64 first, .agg (pathV ab vn sl0), .bool fo] w fun e w' => e = .returned (.tuple #[.agg (spC (onN l fo 40 ⟨0, [], first⟩ ns0 sl0).1), .int .i64 (onN l fo 40 ⟨0, [], first⟩ ns0 sl0).2]) ∧ Below w.heap.size w w' := by
  obtain ⟨a, ca, rfl⟩ := nds_slice hv
  obtain ⟨an, nn, cn, rfl, _⟩ := id hN.2
  obtain rfl := (strs_src hN).1
  have HC := Lib.hid hok.calm
  have HOK := Lib.hid hok
  have HV := Lib.hid hv
  have A0 := alloc_below w (.cells (fsC mi mb nx (.slice a l.length ca)) 28)
  have bF0 := Blk.new w 28 (fsC mi mb nx (.slice a l.length ca))
  have A1 := alloc_below (w.alloc (.cells (fsC mi mb nx (.slice a l.length ca)) 28)) (.cells (pathV ab (.slice an ns0.length cn) sl0) 86)
  have bP0 := Blk.new (w.alloc (.cells (fsC mi mb nx (.slice a l.length ca)) 28)) 86 (pathV ab (.slice an ns0.length cn) sl0)
  have bF1 := bF0.next A1
  have A2 := alloc_below ((w.alloc (.cells (fsC mi mb nx (.slice a l.length ca)) 28)).alloc (.cells (pathV ab (.slice an ns0.length cn) sl0) 86)) (.cells (spC zeroS) 81)
  have bR := Blk.new ((w.alloc (.cells (fsC mi mb nx (.slice a l.length ca)) 28)).alloc (.cells (pathV ab (.slice an ns0.length cn) sl0) 86)) 81 (spC zeroS)
  have bF := bF1.next A2
  have bP := bP0.next A2
  have A01 := A0.trans (A1.mono A0.size)
  have hB := A01.trans (A2.mono A01.size)
  clear A0 A1 A2 A01 bF0 bF1 bP0
  simp only [World.size_alloc] at bR bP
  have hS := stand_any mi mb nx first l _ _ (hv.below hB) HC.out
  have hG0 : (getN l first).ino = first := (dir_num hok hd).2.2
  have hG1 : first ≠ 0 := (dir_num hok hd).1
  obtain ⟨ag, ng, cg, hgs⟩ := get_slice hv first
  generalize hQ : onN l fo 40 ⟨0, [], first⟩ ns0 sl0 = Q at *
  obtain ⟨⟨qa, qb, qc⟩, qe⟩ := Q
  have HQ := Lib.hid hQ
  have HN := Lib.hid hN
  have HD := Lib.hid hd
  clear hv hok hd hQ hN
  have hXC : ∀ W, Blk W W.heap.size 49 (ndC (getN l first)) → True := fun _ _ => trivial
  clear hXC
  obtain ⟨⟨p0, p1, p2, p3⟩, _⟩ := bF.four
  generalize hGG : getN l first = G at *
  obtain ⟨gi, gki, gl, gd, gp, ge, gn⟩ := G
  dsimp only at hgs hG0
  subst hgs hG0
  have HGG := Lib.hid hGG
  clear hGG
  go_enter Tryz.func104, Tryz.ntmps104
  go_wp2
  go_step3
  go_wp2_with fail
  refine hS.mono ?_
  rintro e w1 ⟨rfl, b1⟩
  clear hS p0 p1 p2 p3
  have hl1 : w.heap.size + 3 ≤ w1.heap.size := by have := b1.size; simp at this; omega
  have b2 := alloc_below w1 (.cells (spC ⟨0, [], gi⟩) 81)
  have bA0 := Blk.new w1 81 (spC ⟨0, [], gi⟩)
  have b20 := alloc_below (w1.alloc (.cells (spC ⟨0, [], gi⟩) 81)) (.cells (ndC ⟨gi, gki, gl, gd, gp, .slice ag ng cg, gn⟩) 49)
  have bA := bA0.next b20
  have bB := Blk.new (w1.alloc (.cells (spC ⟨0, [], gi⟩) 81)) 49 (ndC ⟨gi, gki, gl, gd, gp, .slice ag ng cg, gn⟩)
  have hsz2 : w1.heap.size + 2 ≤ ((w1.alloc (.cells (spC ⟨0, [], gi⟩) 81)).alloc (.cells (ndC ⟨gi, gki, gl, gd, gp, .slice ag ng cg, gn⟩) 49)).heap.size := by simp
  simp only [World.size_alloc] at bB
  have b3 := b2.trans (b20.mono b2.size)
  have b4 := b1.trans (b3.mono b1.size)
  replace hB := hB.trans (b4.mono hB.size)
  replace bF := bF.next b4
  replace bP := bP.next b4
  replace bR := bR.next b4
  clear b1 b2 b20 bA0 b3 b4
  try dsimp only at bA bB hB bF bP bR
  go_upto_region 2 with fail
  generalize ((w1.alloc (.cells #[.int .i64 0, .string ⟨#[]⟩, .int .i64 gi] 81)).alloc (.cells #[.int .i64 gi, .int .i64 gki, .int .i64 gl, .string ⟨gd.toArray⟩, .int .i64 gp, .slice ag ng cg] 49)) = w2 at *
  obtain ⟨⟨z0, z1, z2⟩, _⟩ := bP.three
  go_quiet (fail)
  have hqn : Below w2.heap.size w2 (w2.drewN nq) := below_drewN (Below.refl _ _) nq
  replace hB := hB.trans (hqn.mono hB.size)
  replace bF := bF.next hqn
  replace bR := bR.next hqn
  replace bA := bA.next hqn
  replace bB := bB.next hqn
  replace hsz2 := Nat.le_trans hsz2 hqn.size
  have hNK : StrsK w.heap.size (w1.heap.size + 2) (w2.drewN nq) (.slice an ns0.length cn) ns0 := by
    have h0 := StrsK.low (m := w.heap.size) (n := w1.heap.size + 2) HN.out (Nat.le_refl _)
    refine ⟨h0.1.below hB, h0.2⟩
  clear hqn z0 z1 z2 bP
  generalize w2.drewN nq = w3 at *
  go_wp2
  go_step3
  go_wp2
  have hON := onS_bare HD.out
  go_loopg [12, 13, 14] 40 (fun g s12 s13 s14 wr => ∃ (ns : List (List UInt8)) (s : Sp) (d : Bool) (f : Nat) (an : Option Addr) (cn : Nat), f + g = 40 ∧ s12 = .slice an ns.length cn ∧ s13 = .bool d ∧ s14 = .int .i64 f ∧ ns.length ≤ 100000 + 5001 * f ∧ Aside (onN l fo g s ns d = (⟨qa, qb, qc⟩, qe)) ∧ Aside (OnS l s ∧ (0 < ns.length → s.ino ≠ 0)) ∧ Below w.heap.size w wr ∧ w1.heap.size + 2 ≤ wr.heap.size ∧
    Aside (Blk wr w.heap.size 28 (fsC mi mb nx (.slice a l.length ca))) ∧ Aside (Blk wr (w.heap.size + 1 + 1) 81 (spC zeroS)) ∧ Aside (Blk wr w1.heap.size 81 (spC s)) ∧ Aside (Blk wr (w1.heap.size + 1) 49 (ndC (getN l s.ino))) ∧ Aside (StrsK w.heap.size (w1.heap.size + 2) wr (.slice an ns.length cn) ns))
  case atStart => exact ⟨ns0, ⟨0, [], gi⟩, sl0, 0, an, cn, by omega, rfl, rfl, rfl, by omega, HQ.out, ⟨hON, fun _ => hG1⟩, hB, hsz2, bF, bR, bA, by (show Blk _ _ _ _); rw [HGG.out]; exact bB, hNK⟩
  case round =>
    clear hON hB bF bR bA bB hNK HQ HN HD HGG hsz2 hlen
    obtain ⟨ns, s, d, f, an, cn, hfg, rfl, rfl, rfl, hnl, HT, HS, hB, hsz, HF, HR, HA, HB, HK⟩ := hrel
    go_wp2
    go_loopw [12, 13, 14, 33] (fun s12 s13 s14 s33 wr => ∃ (k : Nat) (s : Sp), k ≤ ns.length ∧ s12 = .slice an ns.length cn ∧ s13 = .bool d ∧ s14 = .int .i64 f ∧ s33 = .int .i64 k ∧ Aside (onN l fo gk s (ns.drop k) d = (⟨qa, qb, qc⟩, qe)) ∧ Aside (OnS l s ∧ (k < ns.length → s.ino ≠ 0)) ∧ Below w.heap.size w wr ∧ w1.heap.size + 2 ≤ wr.heap.size ∧
      Aside (Blk wr w.heap.size 28 (fsC mi mb nx (.slice a l.length ca))) ∧ Aside (Blk wr (w.heap.size + 1 + 1) 81 (spC zeroS)) ∧ Aside (Blk wr w1.heap.size 81 (spC s)) ∧ Aside (Blk wr (w1.heap.size + 1) 49 (ndC (getN l s.ino))) ∧ Aside (StrsK w.heap.size (w1.heap.size + 2) wr (.slice an ns.length cn) ns)) (fun _ _ _ s33 _ => ns.length - (intOf s33).toNat)
    case atStart => exact ⟨0, s, Nat.zero_le _, rfl, rfl, rfl, rfl, HT.out, HS.out, hB, hsz, HF.out, HR.out, HA.out, HB.out, HK.out⟩
    case round =>
      clear hB hsz HF HR HA HB HK HT HS
      obtain ⟨k, s, hk, rfl, rfl, rfl, rfl, HT, HS, hB, hsz, HF, HR, HA, HB, HK⟩ := hrel
      by_cases hlt : k < ns.length
      · have h0 := HS.out.2 hlt
        obtain ⟨⟨an2, cn2, e2, hm2, h1⟩, a3, n3, c3, e3, hq1, hq2, hq3⟩ := HK.out.1
        simp only [Value.slice.injEq] at e2 e3
        obtain ⟨rfl, -, rfl⟩ := e2
        obtain ⟨rfl, rfl, rfl⟩ := e3
        obtain ⟨b, o, rfl, hb, hcl⟩ := h1 (by omega)
        have hbk : Hid (b < w.heap.size ∨ w1.heap.size + 2 ≤ b) := HK.out.2 _ _ _ rfl (by omega)
        have c0 := hcl k hlt
        have HCL := Lib.hid hcl
        have hdrop : ns.drop k = ns[k] :: ns.drop (k + 1) := List.drop_eq_getElem_cons hlt
        have hT := HT.out
        rw [hdrop] at hT
        have hrl : (ns.drop (k + 1)).length = ns.length - (k + 1) := List.length_drop
        have HRC : Hid (∀ i (hi : i < (ns.drop (k + 1)).length), wr.cell? ⟨b, o + k + 1 + i, none⟩ = some (.string ⟨(ns.drop (k + 1))[i].toArray⟩)) := by
          intro i hi
          have := HCL.out (k + 1 + i) (by omega)
          rw [show o + k + 1 + i = o + (k + 1 + i) from by omega]
          rw [List.getElem_drop]; exact this
        have E1 : Hid ((getN l s.ino).kind ≠ 2 → ((⟨qa, qb, qc⟩, qe) : Sp × Int) = (zeroS, 3)) := fun h2 => hT.symm.trans (on_file h0 h2)
        have E2 : Hid ((getN l s.ino).kind = 2 → (stepP (getN l s.ino) ns[k]).ino = 0 → ns.drop (k + 1) ≠ [] → ((⟨qa, qb, qc⟩, qe) : Sp × Int) = (zeroS, 1)) := fun h2 hz hr => hT.symm.trans (lead_gone HOK.out h0 h2 hz hr)
        have E3 : Hid ((getN l s.ino).kind = 2 → ((getN l (stepP (getN l s.ino) ns[k]).ino).kind ≠ 3 ∨ (ns.drop (k + 1) = [] ∧ fo = false ∧ d = false)) → onN l fo gk (stepP (getN l s.ino) ns[k]) (ns.drop (k + 1)) d = ((⟨qa, qb, qc⟩, qe) : Sp × Int)) := fun h2 hc => (lead_on HOK.out h0 h2 hc).symm.trans hT
        have E4 : Hid ((getN l s.ino).kind = 2 → (getN l (stepP (getN l s.ino) ns[k]).ino).kind = 3 → ¬ (ns.drop (k + 1) = [] ∧ fo = false ∧ d = false) → gk = 0 → ((⟨qa, qb, qc⟩, qe) : Sp × Int) = (zeroS, 6)) := by
          intro h2 h3 hc hg
          rw [← hT, hg]
          exact lead_loop HOK.out h0 h2 h3 hc
        have E5 : Hid ((getN l s.ino).kind = 2 → (getN l (stepP (getN l s.ino) ns[k]).ino).kind = 3 → ¬ (ns.drop (k + 1) = [] ∧ fo = false ∧ d = false) → ∀ g0, gk = g0 + 1 → longB (getN l (stepP (getN l s.ino) ns[k]).ino).data = true → ((⟨qa, qb, qc⟩, qe) : Sp × Int) = (zeroS, 7)) := by
          intro h2 h3 hc g0 hg hl
          rw [← hT, hg]
          exact lead_long HOK.out h0 h2 h3 hc hl
        have E6 : Hid ((getN l s.ino).kind = 2 → (getN l (stepP (getN l s.ino) ns[k]).ino).kind = 3 → ¬ (ns.drop (k + 1) = [] ∧ fo = false ∧ d = false) → ∀ g0, gk = g0 + 1 → longB (getN l (stepP (getN l s.ino) ns[k]).ino).data = false → onN l fo g0 ⟨0, [], if absB (getN l (stepP (getN l s.ino) ns[k]).ino).data = true then 1 else (getN l s.ino).ino⟩ (namesB (getN l (stepP (getN l s.ino) ns[k]).ino).data ++ ns.drop (k + 1)) (d || ((ns.drop (k + 1)).isEmpty && slashB (getN l (stepP (getN l s.ino) ns[k]).ino).data)) = ((⟨qa, qb, qc⟩, qe) : Sp × Int)) := by
          intro h2 h3 hc g0 hg hl
          rw [← hT, hg]
          exact (lead_link HOK.out h0 h2 h3 hc hl).symm
        have E7 := Lib.hid (fun (h2 : (getN l s.ino).kind = 2) => step_on HOK.out ns[k] h2)
        have E8 := Lib.hid (fun (h2 : (getN l s.ino).kind = 2) c => from_dir HOK.out h2 c)
        have hEG := get_ents HV.out.all s.ino
        have hGR := calm_get HC.out s.ino
        obtain ⟨ax, nnx, cx, hxs⟩ := get_slice HV.out s.ino
        clear hT hcl h1 hdrop HCL
        generalize ns[k] = n at *
        generalize hrd : ns.drop (k + 1) = r at *
        have HRD := Lib.hid hrd
        have HRL := Lib.hid hrl
        clear hrd hrl HT HS
        have hHB := HB.out
        obtain ⟨sd, sn, si⟩ := s
        dsimp only at *
        generalize getN l si = X at *
        obtain ⟨xi, xk, xl, xd, xp, xe, xn⟩ := X
        dsimp only at *
        subst hxs
        obtain ⟨⟨x0, x1, x2, x3, x4, x5⟩, _⟩ := hHB.six
        dsimp only at x0 x1 x2 x3 x4 x5
        by_cases hk2 : xk = 2
        · subst hk2
          go_upto_region 8 with fail
          have q1 : (0 : Int) ≤ (k : Int) + 1 := by omega
          have q2 : (k : Int) + 1 ≤ (ns.length : Int) := by omega
          have q3 : (k : Int) + 1 ≤ (cn : Int) := by omega
          have q4 : IntKind.i64.wrap ((k : Int) + 1) = (k : Int) + 1 := by rw [IntKind.wrap_i64]; unfold maxLen at hm2; omega
          go_cut [17, 18] from 42 to 47 (fun s17 s18 wc => s17 = .int .i64 xi ∧ (∃ a' c', s18 = .slice a' r.length c' ∧ Aside (StrsK w.heap.size (w1.heap.size + 2) wc (.slice a' r.length c') r)) ∧ Below wr.heap.size wr wc)
          case first =>
            clear E1 E2 E3 E4 E5 E6 E7 E8
            go_quiet (fail)
            go_wp2
            all_goals try subst_vars
            all_goals go_meet
            all_goals refine ⟨rfl, ⟨_, _, by rw [HRL.out], ?_⟩, below_drewN (Below.refl _ _) nq⟩
            all_goals refine StrsK.keep ?_ (KeepB.of_below (below_drewN (Below.refl _ _) nq))
            · have := strsK_rest (c := k + 1) hb hbk.out HRC.out HRL.out hlt (by omega) (by omega)
              rw [if_pos rfl, Nat.sub_self] at this
              exact this
            · have := strsK_rest (c := cn) hb hbk.out HRC.out HRL.out hlt (by omega) (by omega)
              rw [if_neg (by omega)] at this
              exact this
          case rest =>
            obtain ⟨rfl, ⟨ar, cr, rfl, HRK⟩, hwc⟩ := hcut
            clear q1 q2 q3 q4 x0 x1 x2 x3 x4 x5 c0 HRC
            replace hB := hB.trans (hwc.mono hB.size)
            replace hsz := Nat.le_trans hsz hwc.size
            have hF := HF.out.next hwc
            have hR := HR.out.next hwc
            have hA := HA.out.next hwc
            replace hHB := hHB.next hwc
            have HNK := Lib.hid (HK.out.keep (KeepB.of_below hwc))
            clear HF HR HA HB HK hwc
            have hSt := step_any mi mb nx l ⟨xi, 2, xl, xd, xp, .slice ax nnx cx, xn⟩ n _ wc (HV.out.below hB) HC.out (hEG.below hB) hGR.1 hGR.2.1 ax nnx cx rfl
            clear hEG hGR
            generalize stepP ⟨xi, 2, xl, xd, xp, .slice ax nnx cx, xn⟩ n = s2 at *
            obtain ⟨sd2, sn2, si2⟩ := s2
            dsimp only at hSt E2 E3 E4 E5 E6 E7
            obtain ⟨ay, ny, cy, hys⟩ := get_slice HV.out si2
            have hyd := (calm_get HC.out si2).2.2.1
            generalize hYY : getN l si2 = Y at *
            obtain ⟨yi, yk, yl, yd, yp, ye, yn⟩ := Y
            dsimp only at hys hyd hSt E2 E3 E4 E5 E6
            subst hys
            have HYY := Lib.hid hYY
            clear hYY
            obtain ⟨⟨p0, p1, p2, p3⟩, _⟩ := hF.four
            obtain ⟨⟨x0, x1, x2, x3, x4, x5⟩, _⟩ := hHB.six
            dsimp only at x0 x1 x2 x3 x4 x5
            go_wp2_with fail
            refine hSt.mono ?_
            rintro e w5 ⟨rfl, b5⟩
            clear hSt p0 p1 p2 p3 x0 x1 x2 x3 x4 x5
            replace hB := hB.trans (b5.mono hB.size)
            replace hF := hF.next b5
            replace hR := hR.next b5
            replace hA := hA.next b5
            replace hHB := hHB.next b5
            obtain ⟨⟨s0, s1, s2⟩, e0, e1, e2⟩ := hA.three
            dsimp only at s0 s1 s2
            obtain ⟨W6, hW6, hA6, hg6⟩ := hA.put3 (.int .i64 sd2) (.string ⟨sn2.toArray⟩) (.int .i64 si2)
            have hB6 := hHB.kept hg6 (by simp)
            obtain ⟨⟨x0, x1, x2, x3, x4, x5⟩, f0, f1, f2, f3, f4, f5⟩ := hB6.six
            dsimp only at x0 x1 x2 x3 x4 x5
            obtain ⟨W7, hW7, hB7, hg7⟩ := hB6.put6 ⟨yi, yk, yl, yd, yp, .slice ay ny cy, yn⟩
            dsimp only at hW7
            have hA7 := hA6.kept hg7 (by simp)
            have hF7 := (hF.kept hg6 (by simp; omega)).kept hg7 (by simp; omega)
            have hR7 := (hR.kept hg6 (by simp; omega)).kept hg7 (by simp; omega)
            have hBl7 := below_grown (below_grown hB hg6 (Nat.le_refl _) (by omega)) hg7 (Nat.le_refl _) (by omega)
            have hKB : KeepB w.heap.size (w1.heap.size + 2) wc W7 := ((KeepB.of_below b5).trans (KeepB.grown hg6 (by omega) (by omega))).trans (KeepB.grown hg7 (by omega) (by omega))
            have hsz7 := Nat.le_trans hsz hKB.1
            replace HNK := Lib.hid (HNK.out.keep hKB)
            replace HRK := Lib.hid (HRK.out.keep hKB)
            clear hKB b5 hsz hB
            go_upto_region 10 with fail
            clear s0 s1 s2 e0 e1 e2 x0 x1 x2 x3 x4 x5 f0 f1 f2 f3 f4 f5
            have HB8 : Hid (Blk W7 (w1.heap.size + 1) 49 (ndC (getN l si2))) := by (show Blk _ _ _ _); rw [HYY.out]; exact hB7
            have HRL2 : Hid (0 < r.length → r ≠ []) := fun h e => by rw [e] at h; exact absurd h (by simp)
            obtain ⟨⟨s0, s1, s2⟩, _⟩ := hA7.three
            obtain ⟨⟨y0, y1, y2, y3, y4, y5⟩, _⟩ := hB7.six
            dsimp only at s0 s1 s2 y0 y1 y2 y3 y4 y5
            by_cases hsi : si2 = 0
            · subst hsi
              by_cases hr : r = []
              · subst hr
                have hyk : yk ≠ 3 := by
                  have h := getN_none (no_zero HOK.out)
                  rw [HYY.out] at h
                  have h2 : yk = (zeroN).kind := congrArg Nd.kind h
                  rw [h2]; decide
                have hyk2 : (yk != 3) = true := by simpa using hyk
                have HT3 := Lib.hid (E3.out trivial (.inl hyk))
                clear E1 E2 E3 E4 E5 E6 E8 hyk
                (go_wp2; go_roundw; (case rel => exact ⟨k + 1, ⟨sd2, sn2, 0⟩, by omega, rfl, rfl, rfl, by go_num, (by (show _ = _); rw [HRD.out]; exact HT3.out), ⟨E7.out trivial, fun h => absurd h (by have := HRL.out; simp at this; omega)⟩, hBl7, hsz7, hF7, hR7, hA7, HB8.out, HNK.out⟩); (case measure => simp [intOf]; omega))
              · have HN := Lib.hid (E2.out trivial rfl hr)
                have hrl1 : ((r.length : Int) == 0) = false := by
                  have := List.length_pos_iff.2 hr
                  rw [beq_eq_false_iff_ne]; omega
                clear E1 E2 E3 E4 E5 E6 E7 E8
                (obtain ⟨⟨r0, r1, r2⟩, e0, e1, e2⟩ := hR7.three; obtain ⟨W8, hW8, hb8, hg8⟩ := hR7.put3 (.int .i64 0) (.string ⟨#[]⟩) (.int .i64 0); have hbl := below_grown hBl7 hg8 (Nat.le_refl _) (by omega); go_wp2; obtain ⟨⟨t0, t1, t2⟩, _⟩ := hb8.three; (try rw [Exit.noGoto_ret]); refine bodyPost_ret (v := .tuple #[.agg #[.int .i64 0, .string ⟨#[]⟩, .int .i64 0], .int .i64 1]) (by simp [results, Tryz.f104, go_sem, t0, t1, t2]) rfl ?_; exact ⟨by rw [show (⟨qa, qb, qc⟩ : Sp) = zeroS from (Prod.mk.inj HN.out).1, show qe = 1 from (Prod.mk.inj HN.out).2], hbl⟩)
            · have hsi2 : (si2 == 0) = false := by rw [beq_eq_false_iff_ne]; exact hsi
              by_cases hk3 : yk = 3
              · by_cases hc : r = [] ∧ fo = false ∧ d = false
                · have HT3 := Lib.hid (E3.out trivial (.inr hc))
                  obtain ⟨rfl, rfl, rfl⟩ := hc
                  subst hk3
                  clear E1 E2 E3 E4 E5 E6 E8
                  (go_wp2; go_roundw; (case rel => exact ⟨k + 1, ⟨sd2, sn2, si2⟩, by omega, rfl, rfl, rfl, by go_num, (by (show _ = _); rw [HRD.out]; exact HT3.out), ⟨E7.out trivial, fun _ => hsi⟩, hBl7, hsz7, hF7, hR7, hA7, HB8.out, HNK.out⟩); (case measure => simp [intOf]; omega))
                · subst hk3
                  have HN4 := Lib.hid (E4.out trivial rfl hc)
                  have HN5 := Lib.hid (E5.out trivial rfl hc)
                  have HN6 := Lib.hid (E6.out trivial rfl hc)
                  clear E1 E2 E3 E4 E5 E6 E7
                  have hla : ((r.length : Int) == 0) = r.isEmpty := by cases r <;> simp; try omega
                  have hc2 : ¬ (r.isEmpty = true ∧ fo = false ∧ d = false) := fun h => hc ⟨List.isEmpty_iff.1 h.1, h.2⟩
                  clear hc
                  go_upto_region 14 with fail
                  clear hla
                  generalize hri : r.isEmpty = la at *
                  have HRI := Lib.hid hri
                  clear hri
                  go_cut [67] from 71 to 79 (fun s67 wc => wc = W7 ∧ s67 = .bool false)
                  case first =>
                    clear HN4 HN5 HN6 E8
                    cases la
                    · clear hc2
                      go_wp2_with fail
                      go_meet
                      exact ⟨rfl, rfl⟩
                    · cases fo
                      · cases d
                        · exact absurd ⟨rfl, rfl, rfl⟩ hc2
                        · clear hc2
                          go_wp2_with fail
                          go_meet
                          exact ⟨rfl, rfl⟩
                      · clear hc2
                        go_wp2_with fail
                        go_meet
                        exact ⟨rfl, rfl⟩
                  case rest =>
                    obtain ⟨hwc, rfl⟩ := hcut
                    subst hwc
                    clear hc2
                    by_cases hg0 : gk = 0
                    · have HN := Lib.hid (HN4.out hg0)
                      obtain rfl : f = 40 := by omega
                      clear HN4 HN5 HN6 E8
                      (obtain ⟨⟨r0, r1, r2⟩, e0, e1, e2⟩ := hR7.three; obtain ⟨W8, hW8, hb8, hg8⟩ := hR7.put3 (.int .i64 0) (.string ⟨#[]⟩) (.int .i64 0); have hbl := below_grown hBl7 hg8 (Nat.le_refl _) (by omega); go_wp2; obtain ⟨⟨t0, t1, t2⟩, _⟩ := hb8.three; (try rw [Exit.noGoto_ret]); refine bodyPost_ret (v := .tuple #[.agg #[.int .i64 0, .string ⟨#[]⟩, .int .i64 0], .int .i64 6]) (by simp [results, Tryz.f104, go_sem, t0, t1, t2]) rfl ?_; exact ⟨by rw [show (⟨qa, qb, qc⟩ : Sp) = zeroS from (Prod.mk.inj HN.out).1, show qe = 6 from (Prod.mk.inj HN.out).2], hbl⟩)
                    obtain ⟨g0, hg1⟩ : ∃ g0, gk = g0 + 1 := ⟨gk - 1, by omega⟩
                    have hf4 : ((f : Int) == 40) = false := by rw [beq_eq_false_iff_ne]; omega
                    have hf5 : IntKind.i64.wrap ((f : Int) + 1) = (f : Int) + 1 := by rw [IntKind.wrap_i64]; omega
                    have hLg := Long_any yd (by omega) wc
                    cases hl : longB yd
                    · rw [hl] at hLg
                      have HQ := Lib.hid (HN6.out g0 hg1 hl)
                      clear HN4 HN5 HN6
                      go_wp2_with fail
                      refine hLg.mono ?_
                      rintro e w5 ⟨rfl, b5⟩
                      clear hLg y0 y1 y2 y3 y4 y5 s0 s1 s2
                      obtain ⟨⟨y0, y1, y2, y3, y4, y5⟩, _⟩ := (hB7.next b5).six
                      dsimp only at y0 y1 y2 y3 y4 y5
                      have hct := namesB_count yd
                      go_wp2_with fail
                      refine (Read_any yd (by omega) _).mono ?_
                      rintro e w6 ⟨vn, rfl, hNO, b6⟩
                      clear y0 y1 y2 y3 y4 y5
                      obtain ⟨an2, nn2, cn2, rfl, _⟩ := id (own_strsC hNO).2
                      obtain rfl := (strs_src (own_strsC hNO)).1
                      have hNT := StrsK.own (m := w.heap.size) hNO (Nat.le_trans hsz7 b5.size)
                      have b56 := b5.trans (b6.mono b5.size)
                      have b7 := alloc_below w6 (.cells (pathV (absB yd) (.slice an2 (namesB yd).length cn2) (slashB yd)) 86)
                      have b57 := b56.trans (b7.mono b56.size)
                      have hlt6 := (hB7.next b56).lt
                      have bP2 := Blk.new w6 86 (pathV (absB yd) (.slice an2 (namesB yd).length cn2) (slashB yd))
                      have hBl8 := hBl7.trans (b57.mono hBl7.size)
                      have hF8 := hF7.next b57
                      have hR8 := hR7.next b57
                      have hA8 := hA7.next b57
                      have hB8 := hB7.next b57
                      have hsz8 := Nat.le_trans hsz7 b57.size
                      have HRK8 := Lib.hid (HRK.out.keep (KeepB.of_below b57))
                      have HNT8 := Lib.hid (hNT.keep (KeepB.of_below b7))
                      have hnl2 : (namesB yd ++ r).length ≤ 100000 + 5001 * (f + 1) := by
                        rw [List.length_append]
                        have := HRL.out
                        omega
                      have HNL := Lib.hid hnl2
                      clear hnl2 hNT hNO b5 b6 b7 b56 b57 hF7 hR7 hA7 hB7 hBl7 hsz7 HRK HNK HB8 HYY hct
                      generalize namesB yd = tns at *
                      generalize absB yd = ab2 at *
                      generalize slashB yd = sl2 at *
                      obtain ⟨⟨z0, z1, z2⟩, _⟩ := bP2.three
                      go_upto_if 95 with (fail)
                      go_cut [17] from 94 (fun s17 wc => wc = w6.alloc (.cells (pathV ab2 (.slice an2 tns.length cn2) sl2) 86) ∧ s17 = .int .i64 (if ab2 = true then 1 else xi))
                      case first =>
                        clear HQ
                        cases ab2
                        · go_wp2_with fail
                          go_meet
                          exact ⟨rfl, rfl⟩
                        · go_wp2_with fail
                          go_meet
                          exact ⟨rfl, rfl⟩
                      case rest =>
                      obtain ⟨hwc, rfl⟩ := hcut
                      subst hwc
                      have hD8 := E8.out trivial ab2
                      generalize (if ab2 = true then (1 : Int) else xi) = fr at *
                      generalize w6.alloc (.cells (pathV ab2 (.slice an2 tns.length cn2) sl2) 86) = w7 at *
                      generalize w6.heap.size = BP at *
                      have hSt := stand_any mi mb nx fr l _ w7 (HV.out.below hBl8) HC.out
                      obtain ⟨av, nv, cv, hvs⟩ := get_slice HV.out fr
                      generalize hZZ : getN l fr = Z at *
                      obtain ⟨vi, vk, vl, vd, vp, ve, vn⟩ := Z
                      dsimp only at hvs hSt
                      subst hvs
                      have HZZ := Lib.hid hZZ
                      have HD8 := Lib.hid hD8
                      clear hZZ hD8 E8 z0 z1 z2
                      obtain ⟨⟨p0, p1, p2, p3⟩, _⟩ := hF8.four
                      go_wp2_with fail
                      refine hSt.mono ?_
                      rintro e w8 ⟨rfl, b8⟩
                      clear hSt p0 p1 p2 p3
                      replace hBl8 := hBl8.trans (b8.mono hBl8.size)
                      replace hF8 := hF8.next b8
                      replace hR8 := hR8.next b8
                      replace hA8 := hA8.next b8
                      replace hB8 := hB8.next b8
                      replace bP2 := bP2.next b8
                      obtain ⟨⟨s0, s1, s2⟩, e0, e1, e2⟩ := hA8.three
                      try dsimp only at s0 s1 s2
                      obtain ⟨W9, hW9, hA9, hg9⟩ := hA8.put3 (.int .i64 0) (.string ⟨#[]⟩) (.int .i64 fr)
                      have hB9 := hB8.kept hg9 (by simp)
                      obtain ⟨⟨x0, x1, x2, x3, x4, x5⟩, f0, f1, f2, f3, f4, f5⟩ := hB9.six
                      try dsimp only at x0 x1 x2 x3 x4 x5
                      obtain ⟨W10, hW10, hB10, hg10⟩ := hB9.put6 ⟨vi, vk, vl, vd, vp, .slice av nv cv, vn⟩
                      try dsimp only at hW10
                      have hA10 := hA9.kept hg10 (by simp)
                      have hF10 := (hF8.kept hg9 (by simp; omega)).kept hg10 (by simp; omega)
                      have hR10 := (hR8.kept hg9 (by simp; omega)).kept hg10 (by simp; omega)
                      have hP10 := (bP2.kept hg9 (by simp; omega)).kept hg10 (by simp; omega)
                      have hBl10 := below_grown (below_grown hBl8 hg9 (Nat.le_refl _) (by omega)) hg10 (Nat.le_refl _) (by omega)
                      have hKB : KeepB w.heap.size (w1.heap.size + 2) w7 W10 := ((KeepB.of_below b8).trans (KeepB.grown hg9 (by omega) (by omega))).trans (KeepB.grown hg10 (by omega) (by omega))
                      have hsz10 := Nat.le_trans hsz8 hKB.1
                      have HRK10 := Lib.hid (HRK8.out.keep hKB)
                      have HNT10 := Lib.hid (HNT8.out.keep hKB)
                      clear hKB b8 hBl8 hsz8 hF8 hR8 hA8 bP2 HRK8 HNT8
                      go_upto_region 24 with fail
                      clear s0 s1 s2 e0 e1 e2 x0 x1 x2 x3 x4 x5 f0 f1 f2 f3 f4 f5 hB9 hA9 hB8 hW9 hW10 hg9 hg10
                      have HMK : ∀ W, Below W10.heap.size W10 W → (W.cell? ⟨BP, 1, none⟩ = some (.slice an2 tns.length cn2) ∧ W.cell? ⟨BP, 2, none⟩ = some (.bool sl2)) := by
                        intro W h
                        obtain ⟨⟨z0, z1, z2⟩, _⟩ := (hP10.next h).three
                        exact ⟨z1, z2⟩
                      have hq0 : Below W10.heap.size W10 W10.drew := (Below.refl _ _).drew
                      have hqA : Below W10.heap.size W10 (W10.drew.alloc (.cells #[.slice an2 tns.length cn2, .slice ar r.length cr] 84)) := hq0.alloc hq0.size _
                      have hPS : PartsS (W10.drew.alloc (.cells #[.slice an2 tns.length cn2, .slice ar r.length cr] 84)) (.slice (some ⟨W10.heap.size, 0, none⟩) 2 2) [tns, r] := by
                        refine ⟨_, _, rfl, fun _ => ⟨_, 0, rfl, by simp, fun i hi => ?_⟩⟩
                        have hb := Blk.new W10.drew 84 #[.slice an2 tns.length cn2, .slice ar r.length cr]
                        have h1 := (HNT10.out.1).below hqA
                        have h2 := (HRK10.out.1).below hqA
                        match i, hi with
                        | 0, _ => exact ⟨_, (hb.cell 0).trans rfl, h1⟩
                        | 1, _ => exact ⟨_, (hb.cell 1).trans rfl, h2⟩
                      cases d
                      · cases la
                        · ((refine wp_region_held_drew (S := (fun W => W.cell? ⟨BP, 1, none⟩ = some (.slice an2 tns.length cn2) ∧ W.cell? ⟨BP, 2, none⟩ = some (.bool sl2))) (by kernel_rfl) (HMK _ hq0) (fun hHeld => ?_)); (refine heldTake 0 (some 102) (v := ?_) rfl rfl (by kernel_rfl) (by kernel_rfl) (by kernel_rfl) (fun _ _ _ h => h) (by rfl) ?_ (by assumption) ?_; rotate_left; (focus (intro w hSw; (try dsimp only at hSw); go_simp; try with_reducible rfl)); (try simp only [Act.put, List.setIfInBounds_toArray, List.set_cons_zero, List.set_cons_succ])); (refine heldTake 1 (some 103) (v := ?_) rfl rfl (by kernel_rfl) (by kernel_rfl) (by kernel_rfl) (fun _ _ _ h => h) (by rfl) ?_ (by assumption) ?_; rotate_left; (focus (intro w hSw; (try dsimp only at hSw); go_simp; try with_reducible rfl)); (try simp only [Act.put, List.setIfInBounds_toArray, List.set_cons_zero, List.set_cons_succ])); (refine heldTake 2 (some 104) (v := ?_) rfl rfl (by kernel_rfl) (by kernel_rfl) (by kernel_rfl) (fun _ _ _ h => h) (by rfl) ?_ (by assumption) ?_; rotate_left; (focus (intro w hSw; (try dsimp only at hSw); go_simp; try with_reducible rfl)); (try simp only [Act.put, List.setIfInBounds_toArray, List.set_cons_zero, List.set_cons_succ])); (refine heldTake 5 (some 107) (v := ?_) rfl rfl (by kernel_rfl) (by kernel_rfl) (by kernel_rfl) (fun _ _ _ h => h) (by rfl) ?_ (by assumption) ?_; rotate_left; (focus (intro w hSw; (try dsimp only at hSw); go_simp; try with_reducible rfl)); (try simp only [Act.put, List.setIfInBounds_toArray, List.set_cons_zero, List.set_cons_succ])); ((refine wpAnyH_ready (rs := [3]) (by kernel_rfl) (by simp) ?_; refine AllReadyH.cons rfl (fun K hK => ?_) AllReadyH.nil; go_simp; skip; (try dsimp only); refine hK.out _ _ (HMK _ hqA) (fun hHeld => ?_); clear hK K; (try simp only [Act.put, List.setIfInBounds_toArray, List.set_cons_zero, List.set_cons_succ])); (refine wpAnyH_ready (rs := [4]) (by kernel_rfl) (by simp) ?_; refine AllReadyH.cons rfl (fun K hK => ?_) AllReadyH.nil; go_simp; go_at_call 126; refine (ConcatS_any [tns, r] _ _ hPS (by simp) (by have := HNL.out; simp at this ⊢; omega)).mono ?_; rintro e wz ⟨xv, rfl, hNew0, bz⟩; have hq := hqA.trans (bz.mono hqA.size); have hNew : wz.ownsRow W10.heap.size 9 1 xv (tns ++ r).length (strsV (tns ++ r)) := (by have h := own_base hNew0 hqA.size; simpa using h); clear hNew0; obtain ⟨axv, nxv, cxv, rfl, _⟩ := id (own_strsC hNew).2; obtain rfl := (strs_src (own_strsC hNew)).1; (try dsimp only); refine hK.out _ _ (HMK _ hq) (fun hHeld => ?_); clear hK K; (try simp only [Act.put, List.setIfInBounds_toArray, List.set_cons_zero, List.set_cons_succ]))))
                          (refine heldTake 6 (some 108) (v := ?_) rfl rfl (by kernel_rfl) (by kernel_rfl) (by kernel_rfl) (fun _ _ _ h => h) (by rfl) ?_ (by assumption) ?_; rotate_left; (focus (intro w hSw; (try dsimp only at hSw); go_simp; try with_reducible rfl)); (try simp only [Act.put, List.setIfInBounds_toArray, List.set_cons_zero, List.set_cons_succ]))
                          (refine heldTake 7 (some 109) (v := ?_) rfl rfl (by kernel_rfl) (by kernel_rfl) (by kernel_rfl) (fun _ _ _ h => h) (by rfl) ?_ (by assumption) ?_; rotate_left; (focus (intro w hSw; (try dsimp only at hSw); go_simp; try with_reducible rfl)); (try simp only [Act.put, List.setIfInBounds_toArray, List.set_cons_zero, List.set_cons_succ]))
                          (refine heldTake 8 (some 110) (v := ?_) rfl rfl (by kernel_rfl) (by kernel_rfl) (by kernel_rfl) (fun _ _ _ h => h) (by rfl) ?_ (by assumption) ?_; rotate_left; (focus (intro w hSw; (try dsimp only at hSw); go_simp; try with_reducible rfl)); (try simp only [Act.put, List.setIfInBounds_toArray, List.set_cons_zero, List.set_cons_succ]))
                          (refine heldSkip 9 (some 111) rfl rfl (by kernel_rfl) (by kernel_rfl) (by kernel_rfl) (fun _ _ _ h => h) (by rfl) (by assumption) ?_; (try simp only [Act.put, List.setIfInBounds_toArray, List.set_cons_zero, List.set_cons_succ]))
                          (refine heldSkip 10 (some 112) rfl rfl (by kernel_rfl) (by kernel_rfl) (by kernel_rfl) (fun _ _ _ h => h) (by rfl) (by assumption) ?_; (try simp only [Act.put, List.setIfInBounds_toArray, List.set_cons_zero, List.set_cons_succ]))
                          (refine heldTake 11 (some 113) (v := ?_) rfl rfl (by kernel_rfl) (by kernel_rfl) (by kernel_rfl) (fun _ _ _ h => h) (by rfl) ?_ (by assumption) ?_; rotate_left; (focus (intro w hSw; (try dsimp only at hSw); go_simp; try with_reducible rfl)); (try simp only [Act.put, List.setIfInBounds_toArray, List.set_cons_zero, List.set_cons_succ]))
                          (refine heldTake 12 (some 114) (v := ?_) rfl rfl (by kernel_rfl) (by kernel_rfl) (by kernel_rfl) (fun _ _ _ h => h) (by rfl) ?_ (by assumption) ?_; rotate_left; (focus (intro w hSw; (try dsimp only at hSw); go_simp; try with_reducible rfl)); (try simp only [Act.put, List.setIfInBounds_toArray, List.set_cons_zero, List.set_cons_succ]))
                          ((refine heldTake 13 (some 12) (v := ?_) rfl rfl (by kernel_rfl) (by kernel_rfl) (by kernel_rfl) (fun _ _ _ h => h) (by rfl) ?_ (by assumption) ?_; rotate_left; (focus (intro w hSw; (try dsimp only at hSw); go_simp; try with_reducible rfl)); (try simp only [Act.put, List.setIfInBounds_toArray, List.set_cons_zero, List.set_cons_succ])); (refine heldTake 14 (some 13) (v := ?_) rfl rfl (by kernel_rfl) (by kernel_rfl) (by kernel_rfl) (fun _ _ _ h => h) (by rfl) ?_ (by assumption) ?_; rotate_left; (focus (intro w hSw; (try dsimp only at hSw); go_simp; try with_reducible rfl)); (try simp only [Act.put, List.setIfInBounds_toArray, List.set_cons_zero, List.set_cons_succ])); refine wpAnyH_done (by kernel_rfl) ?_ _; go_wp2; go_roundg g0; (case rel => exact ⟨tns ++ r, ⟨0, [], fr⟩, false, f + 1, axv, cxv, by omega, by rw [List.length_append], rfl, by go_num, HNL.out, HQ.out, ⟨onS_bare HD8.out, fun _ => (dir_num HOK.out HD8.out).1⟩, hBl10.trans (hq.mono hBl10.size), Nat.le_trans hsz10 hq.size, hF10.next hq, hR10.next hq, hA10.next hq, (by (show Blk _ _ _ _); rw [HZZ.out]; exact hB10.next hq), StrsK.own hNew hsz10⟩); (case measure => omega))
                        · ((refine wp_region_held_drew (S := (fun W => W.cell? ⟨BP, 1, none⟩ = some (.slice an2 tns.length cn2) ∧ W.cell? ⟨BP, 2, none⟩ = some (.bool sl2))) (by kernel_rfl) (HMK _ hq0) (fun hHeld => ?_)); (refine heldTake 0 (some 102) (v := ?_) rfl rfl (by kernel_rfl) (by kernel_rfl) (by kernel_rfl) (fun _ _ _ h => h) (by rfl) ?_ (by assumption) ?_; rotate_left; (focus (intro w hSw; (try dsimp only at hSw); go_simp; try with_reducible rfl)); (try simp only [Act.put, List.setIfInBounds_toArray, List.set_cons_zero, List.set_cons_succ])); (refine heldTake 1 (some 103) (v := ?_) rfl rfl (by kernel_rfl) (by kernel_rfl) (by kernel_rfl) (fun _ _ _ h => h) (by rfl) ?_ (by assumption) ?_; rotate_left; (focus (intro w hSw; (try dsimp only at hSw); go_simp; try with_reducible rfl)); (try simp only [Act.put, List.setIfInBounds_toArray, List.set_cons_zero, List.set_cons_succ])); (refine heldTake 2 (some 104) (v := ?_) rfl rfl (by kernel_rfl) (by kernel_rfl) (by kernel_rfl) (fun _ _ _ h => h) (by rfl) ?_ (by assumption) ?_; rotate_left; (focus (intro w hSw; (try dsimp only at hSw); go_simp; try with_reducible rfl)); (try simp only [Act.put, List.setIfInBounds_toArray, List.set_cons_zero, List.set_cons_succ])); (refine heldTake 5 (some 107) (v := ?_) rfl rfl (by kernel_rfl) (by kernel_rfl) (by kernel_rfl) (fun _ _ _ h => h) (by rfl) ?_ (by assumption) ?_; rotate_left; (focus (intro w hSw; (try dsimp only at hSw); go_simp; try with_reducible rfl)); (try simp only [Act.put, List.setIfInBounds_toArray, List.set_cons_zero, List.set_cons_succ])); ((refine wpAnyH_ready (rs := [3]) (by kernel_rfl) (by simp) ?_; refine AllReadyH.cons rfl (fun K hK => ?_) AllReadyH.nil; go_simp; skip; (try dsimp only); refine hK.out _ _ (HMK _ hqA) (fun hHeld => ?_); clear hK K; (try simp only [Act.put, List.setIfInBounds_toArray, List.set_cons_zero, List.set_cons_succ])); (refine wpAnyH_ready (rs := [4]) (by kernel_rfl) (by simp) ?_; refine AllReadyH.cons rfl (fun K hK => ?_) AllReadyH.nil; go_simp; go_at_call 126; refine (ConcatS_any [tns, r] _ _ hPS (by simp) (by have := HNL.out; simp at this ⊢; omega)).mono ?_; rintro e wz ⟨xv, rfl, hNew0, bz⟩; have hq := hqA.trans (bz.mono hqA.size); have hNew : wz.ownsRow W10.heap.size 9 1 xv (tns ++ r).length (strsV (tns ++ r)) := (by have h := own_base hNew0 hqA.size; simpa using h); clear hNew0; obtain ⟨axv, nxv, cxv, rfl, _⟩ := id (own_strsC hNew).2; obtain rfl := (strs_src (own_strsC hNew)).1; (try dsimp only); refine hK.out _ _ (HMK _ hq) (fun hHeld => ?_); clear hK K; (try simp only [Act.put, List.setIfInBounds_toArray, List.set_cons_zero, List.set_cons_succ]))))
                          (refine heldTake 6 (some 108) (v := ?_) rfl rfl (by kernel_rfl) (by kernel_rfl) (by kernel_rfl) (fun _ _ _ h => h) (by rfl) ?_ (by assumption) ?_; rotate_left; (focus (intro w hSw; (try dsimp only at hSw); go_simp; try with_reducible rfl)); (try simp only [Act.put, List.setIfInBounds_toArray, List.set_cons_zero, List.set_cons_succ]))
                          (refine heldTake 7 (some 109) (v := ?_) rfl rfl (by kernel_rfl) (by kernel_rfl) (by kernel_rfl) (fun _ _ _ h => h) (by rfl) ?_ (by assumption) ?_; rotate_left; (focus (intro w hSw; (try dsimp only at hSw); go_simp; try with_reducible rfl)); (try simp only [Act.put, List.setIfInBounds_toArray, List.set_cons_zero, List.set_cons_succ]))
                          (refine heldTake 8 (some 110) (v := ?_) rfl rfl (by kernel_rfl) (by kernel_rfl) (by kernel_rfl) (fun _ _ _ h => h) (by rfl) ?_ (by assumption) ?_; rotate_left; (focus (intro w hSw; (try dsimp only at hSw); go_simp; try with_reducible rfl)); (try simp only [Act.put, List.setIfInBounds_toArray, List.set_cons_zero, List.set_cons_succ]))
                          (refine heldTake 9 (some 111) (v := ?_) rfl rfl (by kernel_rfl) (by kernel_rfl) (by kernel_rfl) (fun _ _ _ h => h) (by rfl) ?_ (by assumption) ?_; rotate_left; (focus (intro w hSw; (try dsimp only at hSw); go_simp; try with_reducible rfl)); (try simp only [Act.put, List.setIfInBounds_toArray, List.set_cons_zero, List.set_cons_succ]))
                          (refine heldTake 10 (some 112) (v := ?_) rfl rfl (by kernel_rfl) (by kernel_rfl) (by kernel_rfl) (fun _ _ _ h => h) (by rfl) ?_ (by assumption) ?_; rotate_left; (focus (intro w hSw; (try dsimp only at hSw); go_simp; try with_reducible rfl)); (try simp only [Act.put, List.setIfInBounds_toArray, List.set_cons_zero, List.set_cons_succ]))
                          (refine heldTake 11 (some 113) (v := ?_) rfl rfl (by kernel_rfl) (by kernel_rfl) (by kernel_rfl) (fun _ _ _ h => h) (by rfl) ?_ (by assumption) ?_; rotate_left; (focus (intro w hSw; (try dsimp only at hSw); go_simp; try with_reducible rfl)); (try simp only [Act.put, List.setIfInBounds_toArray, List.set_cons_zero, List.set_cons_succ]))
                          (refine heldTake 12 (some 114) (v := ?_) rfl rfl (by kernel_rfl) (by kernel_rfl) (by kernel_rfl) (fun _ _ _ h => h) (by rfl) ?_ (by assumption) ?_; rotate_left; (focus (intro w hSw; (try dsimp only at hSw); go_simp; try with_reducible rfl)); (try simp only [Act.put, List.setIfInBounds_toArray, List.set_cons_zero, List.set_cons_succ]))
                          ((refine heldTake 13 (some 12) (v := ?_) rfl rfl (by kernel_rfl) (by kernel_rfl) (by kernel_rfl) (fun _ _ _ h => h) (by rfl) ?_ (by assumption) ?_; rotate_left; (focus (intro w hSw; (try dsimp only at hSw); go_simp; try with_reducible rfl)); (try simp only [Act.put, List.setIfInBounds_toArray, List.set_cons_zero, List.set_cons_succ])); (refine heldTake 14 (some 13) (v := ?_) rfl rfl (by kernel_rfl) (by kernel_rfl) (by kernel_rfl) (fun _ _ _ h => h) (by rfl) ?_ (by assumption) ?_; rotate_left; (focus (intro w hSw; (try dsimp only at hSw); go_simp; try with_reducible rfl)); (try simp only [Act.put, List.setIfInBounds_toArray, List.set_cons_zero, List.set_cons_succ])); refine wpAnyH_done (by kernel_rfl) ?_ _; go_wp2; go_roundg g0; (case rel => exact ⟨tns ++ r, ⟨0, [], fr⟩, sl2, f + 1, axv, cxv, by omega, by rw [List.length_append], rfl, by go_num, HNL.out, HQ.out, ⟨onS_bare HD8.out, fun _ => (dir_num HOK.out HD8.out).1⟩, hBl10.trans (hq.mono hBl10.size), Nat.le_trans hsz10 hq.size, hF10.next hq, hR10.next hq, hA10.next hq, (by (show Blk _ _ _ _); rw [HZZ.out]; exact hB10.next hq), StrsK.own hNew hsz10⟩); (case measure => omega))
                      · ((refine wp_region_held_drew (S := (fun W => W.cell? ⟨BP, 1, none⟩ = some (.slice an2 tns.length cn2) ∧ W.cell? ⟨BP, 2, none⟩ = some (.bool sl2))) (by kernel_rfl) (HMK _ hq0) (fun hHeld => ?_)); (refine heldTake 0 (some 102) (v := ?_) rfl rfl (by kernel_rfl) (by kernel_rfl) (by kernel_rfl) (fun _ _ _ h => h) (by rfl) ?_ (by assumption) ?_; rotate_left; (focus (intro w hSw; (try dsimp only at hSw); go_simp; try with_reducible rfl)); (try simp only [Act.put, List.setIfInBounds_toArray, List.set_cons_zero, List.set_cons_succ])); (refine heldTake 1 (some 103) (v := ?_) rfl rfl (by kernel_rfl) (by kernel_rfl) (by kernel_rfl) (fun _ _ _ h => h) (by rfl) ?_ (by assumption) ?_; rotate_left; (focus (intro w hSw; (try dsimp only at hSw); go_simp; try with_reducible rfl)); (try simp only [Act.put, List.setIfInBounds_toArray, List.set_cons_zero, List.set_cons_succ])); (refine heldTake 2 (some 104) (v := ?_) rfl rfl (by kernel_rfl) (by kernel_rfl) (by kernel_rfl) (fun _ _ _ h => h) (by rfl) ?_ (by assumption) ?_; rotate_left; (focus (intro w hSw; (try dsimp only at hSw); go_simp; try with_reducible rfl)); (try simp only [Act.put, List.setIfInBounds_toArray, List.set_cons_zero, List.set_cons_succ])); (refine heldTake 5 (some 107) (v := ?_) rfl rfl (by kernel_rfl) (by kernel_rfl) (by kernel_rfl) (fun _ _ _ h => h) (by rfl) ?_ (by assumption) ?_; rotate_left; (focus (intro w hSw; (try dsimp only at hSw); go_simp; try with_reducible rfl)); (try simp only [Act.put, List.setIfInBounds_toArray, List.set_cons_zero, List.set_cons_succ])); ((refine wpAnyH_ready (rs := [3]) (by kernel_rfl) (by simp) ?_; refine AllReadyH.cons rfl (fun K hK => ?_) AllReadyH.nil; go_simp; skip; (try dsimp only); refine hK.out _ _ (HMK _ hqA) (fun hHeld => ?_); clear hK K; (try simp only [Act.put, List.setIfInBounds_toArray, List.set_cons_zero, List.set_cons_succ])); (refine wpAnyH_ready (rs := [4]) (by kernel_rfl) (by simp) ?_; refine AllReadyH.cons rfl (fun K hK => ?_) AllReadyH.nil; go_simp; go_at_call 126; refine (ConcatS_any [tns, r] _ _ hPS (by simp) (by have := HNL.out; simp at this ⊢; omega)).mono ?_; rintro e wz ⟨xv, rfl, hNew0, bz⟩; have hq := hqA.trans (bz.mono hqA.size); have hNew : wz.ownsRow W10.heap.size 9 1 xv (tns ++ r).length (strsV (tns ++ r)) := (by have h := own_base hNew0 hqA.size; simpa using h); clear hNew0; obtain ⟨axv, nxv, cxv, rfl, _⟩ := id (own_strsC hNew).2; obtain rfl := (strs_src (own_strsC hNew)).1; (try dsimp only); refine hK.out _ _ (HMK _ hq) (fun hHeld => ?_); clear hK K; (try simp only [Act.put, List.setIfInBounds_toArray, List.set_cons_zero, List.set_cons_succ]))))
                        (refine heldTake 6 (some 108) (v := ?_) rfl rfl (by kernel_rfl) (by kernel_rfl) (by kernel_rfl) (fun _ _ _ h => h) (by rfl) ?_ (by assumption) ?_; rotate_left; (focus (intro w hSw; (try dsimp only at hSw); go_simp; try with_reducible rfl)); (try simp only [Act.put, List.setIfInBounds_toArray, List.set_cons_zero, List.set_cons_succ]))
                        (refine heldSkip 7 (some 109) rfl rfl (by kernel_rfl) (by kernel_rfl) (by kernel_rfl) (fun _ _ _ h => h) (by rfl) (by assumption) ?_; (try simp only [Act.put, List.setIfInBounds_toArray, List.set_cons_zero, List.set_cons_succ]))
                        (refine heldSkip 8 (some 110) rfl rfl (by kernel_rfl) (by kernel_rfl) (by kernel_rfl) (fun _ _ _ h => h) (by rfl) (by assumption) ?_; (try simp only [Act.put, List.setIfInBounds_toArray, List.set_cons_zero, List.set_cons_succ]))
                        (refine heldSkip 9 (some 111) rfl rfl (by kernel_rfl) (by kernel_rfl) (by kernel_rfl) (fun _ _ _ h => h) (by rfl) (by assumption) ?_; (try simp only [Act.put, List.setIfInBounds_toArray, List.set_cons_zero, List.set_cons_succ]))
                        (refine heldSkip 10 (some 112) rfl rfl (by kernel_rfl) (by kernel_rfl) (by kernel_rfl) (fun _ _ _ h => h) (by rfl) (by assumption) ?_; (try simp only [Act.put, List.setIfInBounds_toArray, List.set_cons_zero, List.set_cons_succ]))
                        (refine heldSkip 11 (some 113) rfl rfl (by kernel_rfl) (by kernel_rfl) (by kernel_rfl) (fun _ _ _ h => h) (by rfl) (by assumption) ?_; (try simp only [Act.put, List.setIfInBounds_toArray, List.set_cons_zero, List.set_cons_succ]))
                        (refine heldTake 12 (some 114) (v := ?_) rfl rfl (by kernel_rfl) (by kernel_rfl) (by kernel_rfl) (fun _ _ _ h => h) (by rfl) ?_ (by assumption) ?_; rotate_left; (focus (intro w hSw; (try dsimp only at hSw); go_simp; try with_reducible rfl)); (try simp only [Act.put, List.setIfInBounds_toArray, List.set_cons_zero, List.set_cons_succ]))
                        ((refine heldTake 13 (some 12) (v := ?_) rfl rfl (by kernel_rfl) (by kernel_rfl) (by kernel_rfl) (fun _ _ _ h => h) (by rfl) ?_ (by assumption) ?_; rotate_left; (focus (intro w hSw; (try dsimp only at hSw); go_simp; try with_reducible rfl)); (try simp only [Act.put, List.setIfInBounds_toArray, List.set_cons_zero, List.set_cons_succ])); (refine heldTake 14 (some 13) (v := ?_) rfl rfl (by kernel_rfl) (by kernel_rfl) (by kernel_rfl) (fun _ _ _ h => h) (by rfl) ?_ (by assumption) ?_; rotate_left; (focus (intro w hSw; (try dsimp only at hSw); go_simp; try with_reducible rfl)); (try simp only [Act.put, List.setIfInBounds_toArray, List.set_cons_zero, List.set_cons_succ])); refine wpAnyH_done (by kernel_rfl) ?_ _; go_wp2; go_roundg g0; (case rel => exact ⟨tns ++ r, ⟨0, [], fr⟩, true, f + 1, axv, cxv, by omega, by rw [List.length_append], rfl, by go_num, HNL.out, HQ.out, ⟨onS_bare HD8.out, fun _ => (dir_num HOK.out HD8.out).1⟩, hBl10.trans (hq.mono hBl10.size), Nat.le_trans hsz10 hq.size, hF10.next hq, hR10.next hq, hA10.next hq, (by (show Blk _ _ _ _); rw [HZZ.out]; exact hB10.next hq), StrsK.own hNew hsz10⟩); (case measure => omega))
                    · rw [hl] at hLg
                      have HN := Lib.hid (HN5.out g0 hg1 hl)
                      clear HN4 HN5 HN6 E8
                      go_wp2_with fail
                      refine hLg.mono ?_
                      rintro e w5 ⟨rfl, b5⟩
                      clear hLg y0 y1 y2 y3 y4 y5 s0 s1 s2
                      have hBl8 := hBl7.trans (b5.mono hBl7.size)
                      have hR8 := hR7.next b5
                      (obtain ⟨⟨r0, r1, r2⟩, e0, e1, e2⟩ := hR8.three; obtain ⟨W8, hW8, hb8, hg8⟩ := hR8.put3 (.int .i64 0) (.string ⟨#[]⟩) (.int .i64 0); have hbl := below_grown hBl8 hg8 (Nat.le_refl _) (by omega); go_wp2; obtain ⟨⟨t0, t1, t2⟩, _⟩ := hb8.three; (try rw [Exit.noGoto_ret]); refine bodyPost_ret (v := .tuple #[.agg #[.int .i64 0, .string ⟨#[]⟩, .int .i64 0], .int .i64 7]) (by simp [results, Tryz.f104, go_sem, t0, t1, t2]) rfl ?_; exact ⟨by rw [show (⟨qa, qb, qc⟩ : Sp) = zeroS from (Prod.mk.inj HN.out).1, show qe = 7 from (Prod.mk.inj HN.out).2], hbl⟩)
              · have hyk2 : (yk != 3) = true := by simpa using hk3
                have HT3 := Lib.hid (E3.out trivial (.inl hk3))
                clear E1 E2 E3 E4 E5 E6 E8 hk3
                (go_wp2; go_roundw; (case rel => exact ⟨k + 1, ⟨sd2, sn2, si2⟩, by omega, rfl, rfl, rfl, by go_num, (by (show _ = _); rw [HRD.out]; exact HT3.out), ⟨E7.out trivial, fun _ => hsi⟩, hBl7, hsz7, hF7, hR7, hA7, HB8.out, HNK.out⟩); (case measure => simp [intOf]; omega))
        · have HN := Lib.hid (E1.out hk2)
          clear E1 E2 E3 E4 E5 E6 E7 E8
          have hk2b : (xk != 2) = true := by simpa using hk2
          have hRo := HR.out
          (obtain ⟨⟨r0, r1, r2⟩, e0, e1, e2⟩ := hRo.three; obtain ⟨W8, hW8, hb8, hg8⟩ := hRo.put3 (.int .i64 0) (.string ⟨#[]⟩) (.int .i64 0); have hbl := below_grown hB hg8 (Nat.le_refl _) (by omega); go_wp2; obtain ⟨⟨t0, t1, t2⟩, _⟩ := hb8.three; (try rw [Exit.noGoto_ret]); refine bodyPost_ret (v := .tuple #[.agg #[.int .i64 0, .string ⟨#[]⟩, .int .i64 0], .int .i64 3]) (by simp [results, Tryz.f104, go_sem, t0, t1, t2]) rfl ?_; exact ⟨by rw [show (⟨qa, qb, qc⟩ : Sp) = zeroS from (Prod.mk.inj HN.out).1, show qe = 3 from (Prod.mk.inj HN.out).2], hbl⟩)
      · obtain rfl : k = ns.length := by omega
        have hT := HT.out
        rw [List.drop_length] at hT
        have HN := Lib.hid ((lead_end HOK.out HS.out.1).symm.trans hT)
        have hHB := HB.out
        have hHA := HA.out
        have hRo := HR.out
        obtain ⟨ax, nnx, cx, hxs⟩ := get_slice HV.out s.ino
        clear hT HT HS HK HF HA HB HR
        generalize getN l s.ino = X at *
        have hE := ended_any s X d wr ax nnx cx hxs
        obtain ⟨sd, sn, si⟩ := s
        obtain ⟨xi, xk, xl, xd, xp, xe, xn⟩ := X
        dsimp only at *
        subst hxs
        rw [HN.out] at hE
        obtain ⟨⟨s0, s1, s2⟩, _⟩ := hHA.three
        obtain ⟨⟨x0, x1, x2, x3, x4, x5⟩, _⟩ := hHB.six
        dsimp only at s0 s1 s2 x0 x1 x2 x3 x4 x5
        go_wp2_with fail
        refine hE.mono ?_
        rintro e w5 ⟨rfl, b5⟩
        clear hE s0 s1 s2 x0 x1 x2 x3 x4 x5
        have hR5 := hRo.next b5
        have hB5 := hB.trans (b5.mono hB.size)
        obtain ⟨⟨r0, r1, r2⟩, e0, e1, e2⟩ := hR5.three
        obtain ⟨W8, hW8, hb8, hg8⟩ := hR5.put3 (.int .i64 qa) (.string ⟨qb.toArray⟩) (.int .i64 qc)
        have hbl := below_grown hB5 hg8 (Nat.le_refl _) (by omega)
        go_wp2
        obtain ⟨⟨t0, t1, t2⟩, _⟩ := hb8.three
        (try rw [Exit.noGoto_ret])
        refine bodyPost_ret (v := .tuple #[.agg (spC ⟨qa, qb, qc⟩), .int .i64 qe]) (by simp [results, Tryz.f104, go_sem, t0, t1, t2]) rfl ?_
        exact ⟨rfl, hbl⟩
end Go.Proofs.YtkdmfeikikmiiaaGreat
