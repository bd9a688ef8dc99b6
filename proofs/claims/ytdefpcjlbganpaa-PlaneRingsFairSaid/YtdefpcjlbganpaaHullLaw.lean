import Derived.RangeFuncNested
import Derived.RangeFuncBox
import Derived.RangeFuncBound
import Derived.RangeFuncCalls
import Derived.RangeFuncLeaves
import Derived.Shelf.Abstract
import Derived.Shelf.RegionOpen
import Derived.BigRegionIn
import Derived.Stop.RegionWithIn
import Derived.WalkKit
import Derived.OwnWalkIn
import Derived.TacticsInMore
import Derived.LoopNIn
import Derived.LoopIn
import Derived.Lib.Hide
import Derived.IntWalk
import Derived.Deep.QuietTactic
import Derived.Deep.RegionHeld3
import Derived.Deep.RegionLaw
import Derived.StillTailTactics
import Derived.WalkSmall
import Derived.Deep.DeepMust
import Derived.BigQuiet
import Derived.WalkLawsBesides
import Derived.WalkSpells
import Derived.LoopTactic
import Derived.Test.YtdefpcjlbganpaaHU
import Derived.Test.YtdefpcjlbganpaaMBxs
import Derived.Test.YtdefpcjlbganpaaMCut
import Derived.Test.YtdefpcjlbganpaaHU
import Derived.Test.YtdefpcjlbganpaaMBxs
import Derived.Test.YtdefpcjlbganpaaMCut
import Derived.Test.YtdefpcjlbganpaaMDist
import Derived.Lib.SliceRun
import Derived.Lib.SlicesCompact
import Derived.Deep.LoopGhost
import Derived.Deep.DeepCutAuto
import Derived.Deep.CutBlock
namespace Go.Proofs.Ytdefpcjlbganpaa
open Go.RowKit Go.Shelf Go.BigFrame Go.Sort
attribute [local go_sem] Oper.semAt_some
attribute [local go_sem] World.cell?_alloc_some
theorem cinW {C : World → Prop} (H : Hid (∀ W W', C W → Below W.heap.size W W' → C W')) {f : FuncId} {args : Array Value} {v : Value} (h : ∀ n : Wd C, Calls Try.prog f args n.w fun e w' => e = .returned v ∧ Below n.w.heap.size n.w w') (n : Wd C) :
    Hid (Calls Try.prog f args n.w fun e w'' => e = .returned v ∧ ∃ m : Wd C, w'' = m.w) :=
  Calls.quiet_in (C := C) ((h n).mono fun _ _ h => ⟨h.1, H.out _ _ n.h h.2⟩)
theorem hullC_len (l : List Pt) : (hullC l).length ≤ 2 * l.length := by
  have h1 := cptL_len (srtP l)
  rw [srtP_len] at h1
  unfold hullC
  split
  · omega
  · unfold hullL
    have h2 := ltR_len _ (cptL (srtP l)) rfl
    have h3 := ltR_len _ (cptL (srtP l)).reverse rfl
    simp only [List.length_append, List.length_dropLast, List.length_reverse] at *
    omega
set_option maxRecDepth 100000 in
set_option maxHeartbeats 16000000 in
theorem hullsLaw (BX : ∀ W, Calls Try.prog 38 #[] W fun e w' => e = .returned (.bool true) ∧ Below W.heap.size W w') (q : Option Addr) (cap : Nat) (l : List Pt) (w : World) (hl : l.length ≤ 140737488355327) (hp : PtsAt w q l) :
    Calls Try.prog 13 #[.slice q l.length cap] w fun e w' => e = .returned (.bool true) ∧ Below w.heap.size w w' := by
  by_cases h40 : 40 < l.length
  · clear hp
    go_enter Try.func13, Try.ntmps13
    go_wp2_with (go_at_call 38; with_reducible refine (BX _).mono ?_; rintro e w' ⟨rfl, hb⟩)
    go_ret
    exact ⟨rfl, hb⟩
  · by_cases hck : ck 1 l = 0
    · obtain ⟨h1, _, hall⟩ := ck_len hck
      have hok : ∀ q ∈ l, okP q = true := List.all_eq_true.1 hall
      rcases hp with rfl | ⟨b, o, rfl, hbl, hc⟩
      · simp at h1
      have H1 := Lib.hid (Hull_any b o cap l w h1 (by omega) hall (Or.inr ⟨b, o, rfl, hbl, hc⟩))
      have HL : Hid (PtsAt w (some ⟨b, o, none⟩) l) := Or.inr ⟨b, o, rfl, hbl, hc⟩
      have HI : Hid (∀ (i : Nat) (a b : Pt), i < (hullC l).length → (hullC l)[i]? = some a → (hullC l)[(i + 1) % (hullC l).length]? = some b →
          a ∈ l ∧ b ∈ l ∧ (2 < (hullC l).length → ∀ c, (hullC l)[(i + 2) % (hullC l).length]? = some c → trn a b c = 1) ∧
          ∀ q ∈ l, 0 ≤ trn a b q ∧ ((hullC l).length = 1 → q = a) ∧ ((hullC l).length = 2 → onS ⟨a, b⟩ q = true)) := fun i a b => hull_idx l h1 hok i a b
      have hag := hullC_again l h1 hok
      have hln := hullC_len l
      have hhk : (hullC l).all okP = true ∧ 1 ≤ (hullC l).length := by
        rcases hullC_facts l h1 hok with ⟨a, e, hq⟩ | ⟨a, t, e, _, _, _, hsub, _⟩
        · rw [e]
          exact ⟨by simpa using hok a ((hq a).2 rfl), by simp⟩
        · exact ⟨List.all_eq_true.2 (fun x hx => hok x (hsub x hx)), by rw [e]; simp⟩
      obtain ⟨h, hh⟩ : ∃ h, hullC l = h := ⟨_, rfl⟩
      simp only [hh] at H1 HI hag hln hhk
      obtain ⟨hhok, hh1⟩ := hhk
      have hhl : h.length ≤ 80 := by omega
      have hl40 : l.length ≤ 40 := by omega
      have HA := Lib.hid (And.intro hag hhok)
      have hz0 : ((h.length : Int) == 0) = false := by rw [beq_eq_false_iff_ne]; omega
      have hz0' : ¬ (h.length : Int) = 0 := by omega
      clear hh hck hall hok hl hbl hc hag hhok hln
      go_enter Try.func13, Try.ntmps13
      go_wp2_with (go_at_call 39; with_reducible refine H1.out.mono ?_; rintro e w1 ⟨v, rfl, P1⟩)
      obtain ⟨g, cap2, rfl, hg, hcap, hmax⟩ := P1.shape (by omega)
      have HG1 : Hid (PtsAt w1 (some ⟨g, 0, none⟩) h) := by
        obtain ⟨a, c, e, hq⟩ := P1.pts
        injection e with e1
        rw [← e1] at hq
        exact hq
      have B1 : Hid (Below w.heap.size w w1) := P1.st.b
      have H2 := Lib.hid (Hull_any g 0 cap2 h w1 (by omega) (by omega) HA.out.2 HG1.out)
      rw [HA.out.1] at H2
      clear P1 H1 hg hcap hmax
      go_wp2_with (go_at_call 39; with_reducible refine H2.out.mono ?_; rintro e w2 ⟨v2, rfl, P2⟩)
      obtain ⟨g2, cap3, rfl, _, _, _⟩ := P2.shape (by omega)
      have HG2 : Hid (PtsAt w2 (some ⟨g2, 0, none⟩) h) := by
        obtain ⟨a, c, e, hq⟩ := P2.pts
        injection e with e1
        rw [← e1] at hq
        exact hq
      have B2 : Hid (Below w1.heap.size w1 w2) := P2.st.b
      have SP := sameP_any (some ⟨g2, 0, none⟩) cap3 h (some ⟨g, 0, none⟩) cap2 h w2 (by omega) (by omega) HG2.out (HG1.out.keep B2.out)
      rw [show decide (h = h) = true from by simp] at SP
      have HSP := Lib.hid SP
      clear P2 H2 SP
      go_wp2_with (go_at_call 43; with_reducible refine HSP.out.mono ?_; rintro e w3 ⟨rfl, hb3⟩)
      have B3 : Hid (Below w.heap.size w w3) := B1.out.trans ((B2.out.trans (hb3.mono B2.out.size)).mono B1.out.size)
      have PL := HL.out.keep B3.out
      have PH := (HG1.out.keep B2.out).keep hb3
      clear hb3 HSP B1 B2 HG1 HG2 HL
      have hl0 : l ≠ [] := fun e => by rw [e] at h1; simp at h1
      have hh0 : h ≠ [] := fun e => by rw [e] at hh1; simp at hh1
      rcases PL with e | ⟨b', o', e, hbl, hcl⟩
      · exact absurd e hl0
      injection e with e
      injection e with e1 e2
      subst e1 e2
      rcases PH with e | ⟨g', o', e, hgl, hch⟩
      · exact absurd e hh0
      injection e with e
      injection e with e1 e2
      subst e1 e2
      have QL : Hid (PtsAt w3 (some ⟨b, o, none⟩) l) := Or.inr ⟨b, o, rfl, hbl, hcl⟩
      simp only [Nat.zero_add] at hch
      have HCL := Lib.hid hcl
      have HCH := Lib.hid hch
      have HBL := Lib.hid (And.intro hbl hgl)
      clear hbl hgl hcl hch hl0 hh0
      obtain ⟨C, hC0, HC, LC, BC, hne⟩ := cls (St.nil w3)
      haveI := hne
      have DC : Hid (∀ W, Below w3.heap.size w3 W → C W) := fun W hb => HC.out _ _ hC0 hb
      obtain ⟨c0, hc0⟩ : ∃ n : Wd C, w3 = n.w := ⟨⟨_, hC0⟩, rfl⟩
      have HC0 := Lib.hid hc0
      clear hC0 hc0
      have GL : Hid (∀ (n : Wd C) (k : Nat) (p : Pt), l[k]? = some p → n.w.cell? ⟨b, o + k * 2, none⟩ = some (.int .i64 p.x) ∧ n.w.cell? ⟨b, o + k * 2 + 1, none⟩ = some (.int .i64 p.y)) := fun n k p hk =>
        ⟨((BC.out n).cell (p := ⟨b, o + k * 2, none⟩) HBL.out.1).trans (HCL.out k p hk).1, ((BC.out n).cell (p := ⟨b, o + k * 2 + 1, none⟩) HBL.out.1).trans (HCL.out k p hk).2⟩
      have GH : Hid (∀ (n : Wd C) (k : Nat) (p : Pt), h[k]? = some p → n.w.cell? ⟨g, k * 2, none⟩ = some (.int .i64 p.x) ∧ n.w.cell? ⟨g, k * 2 + 1, none⟩ = some (.int .i64 p.y)) := fun n k p hk =>
        ⟨((BC.out n).cell (p := ⟨g, k * 2, none⟩) HBL.out.2).trans (HCH.out k p hk).1, ((BC.out n).cell (p := ⟨g, k * 2 + 1, none⟩) HBL.out.2).trans (HCH.out k p hk).2⟩
      clear HCL HCH
      go_wp2_with fail
      go_loopg [8] h.length (fun gh i wr => ∃ (k : Nat) (n : Wd C), wr = n.w ∧ i = .int .i64 (k : Int) ∧ k ≤ h.length ∧ h.length - k ≤ gh)
      case atStart => exact ⟨0, c0, HC0.out, rfl, by omega, by omega⟩
      case round =>
        obtain ⟨k, n, rfl, rfl, hk, hg⟩ := hrel
        by_cases hlt : k < h.length
        · obtain ⟨a, ha⟩ : ∃ p, h[k]? = some p := ⟨_, List.getElem?_eq_getElem hlt⟩
          have m1l : (k + 1) % h.length < h.length := Nat.mod_lt _ (by omega)
          have m2l : (k + 2) % h.length < h.length := Nat.mod_lt _ (by omega)
          obtain ⟨bb, hb⟩ : ∃ p, h[(k + 1) % h.length]? = some p := ⟨_, List.getElem?_eq_getElem m1l⟩
          obtain ⟨cc, hcc⟩ : ∃ p, h[(k + 2) % h.length]? = some p := ⟨_, List.getElem?_eq_getElem m2l⟩
          obtain ⟨hal, hbl, htr, hq⟩ := HI.out k a bb hlt ha hb
          have HQ := Lib.hid (And.intro (htr · cc hcc) hq)
          obtain ⟨m1, hm1⟩ : ∃ m, (k + 1) % h.length = m := ⟨_, rfl⟩
          obtain ⟨m2, hm2⟩ : ∃ m, (k + 2) % h.length = m := ⟨_, rfl⟩
          rw [hm1] at m1l hb
          rw [hm2] at m2l hcc
          have q1 : ((k : Int) + 1) % (h.length : Int) = (m1 : Int) := by rw [← hm1, Int.natCast_emod, Int.natCast_add]; rfl
          have q2 : ((k : Int) + 2).tmod (h.length : Int) = (m2 : Int) := by rw [Int.tmod_eq_emod_of_nonneg (by omega), ← hm2, Int.natCast_emod, Int.natCast_add]; rfl
          have ga := GH.out n k a ha
          have gb := GH.out n m1 bb hb
          obtain ⟨ga1, ga2⟩ := ga
          obtain ⟨gb1, gb2⟩ := gb
          have HM := Lib.hid (And.intro hal hbl)
          have HCC := Lib.hid hcc
          clear ha hb hcc hal hbl htr hq hm1 hm2
          have m1' : (m1 : Int) < (h.length : Int) := by omega
          have m2' : (m2 : Int) < (h.length : Int) := by omega
          go_wp2_with fail
          obtain ⟨W0, hW0⟩ : ∃ W0, ((n.w).alloc (.cells #[.int .i64 a.x, .int .i64 a.y] 23)).alloc (.cells #[.int .i64 bb.x, .int .i64 bb.y] 23) = W0 := ⟨_, rfl⟩
          have S0 : St w3 W0 [(n.w.heap.size + 1, 0, .int .i64 bb.x), (n.w.heap.size + 1, 1, .int .i64 bb.y), (n.w.heap.size, 0, .int .i64 a.x), (n.w.heap.size, 1, .int .i64 a.y)] := by rw [← hW0]; exact (((⟨BC.out n, LC.out n⟩ : St w3 n.w _)).box #[.int .i64 a.x, .int .i64 a.y] 23 (n.w.heap.size) (by simp)).box #[.int .i64 bb.x, .int .i64 bb.y] 23 (n.w.heap.size + 1) (by simp)
          rw [hW0]
          clear hW0
          obtain ⟨kD, hkk⟩ : ∃ k, n.w.heap.size = k := ⟨_, rfl⟩
          have gkD : w3.heap.size ≤ kD := by rw [← hkk]; exact (BC.out n).size
          rw [hkk] at S0 ⊢
          clear hkk
          obtain ⟨D, hC0, HD, LD, BD, hne⟩ := cls S0
          haveI := hne
          obtain ⟨d0, rfl⟩ : ∃ n : Wd D, W0 = n.w := ⟨⟨_, hC0⟩, rfl⟩
          have fD0 : ∀ n : Wd D, n.w.cell? ⟨kD + 1, 0, none⟩ = some (.int .i64 bb.x) := fun n => (LD.out n).1.2.1
          have fD1 : ∀ n : Wd D, n.w.cell? ⟨kD + 1, 1, none⟩ = some (.int .i64 bb.y) := fun n => (LD.out n).2.1.2.1
          have fD2 : ∀ n : Wd D, n.w.cell? ⟨kD, 0, none⟩ = some (.int .i64 a.x) := fun n => (LD.out n).2.2.1.2.1
          have fD3 : ∀ n : Wd D, n.w.cell? ⟨kD, 1, none⟩ = some (.int .i64 a.y) := fun n => (LD.out n).2.2.2.1.2.1
          clear S0 hC0
          have DD : Hid (∀ m : Wd D, C m.w) := fun m => DC.out _ (BD.out m)
          have D1 := cinW HD (fun m => has_yes (some ⟨b, o, none⟩) cap l a m.w (by omega) (QL.out.keep (BD.out m)) HM.out.1)
          have D2 := cin HD (fun W => Turn_any a bb cc W)
          have gc1 : ∀ m : Wd D, m.w.cell? ⟨g, m2 * 2, none⟩ = some (.int .i64 cc.x) := fun m => (GH.out ⟨m.w, DD.out m⟩ m2 cc HCC.out).1
          have gc2 : ∀ m : Wd D, m.w.cell? ⟨g, m2 * 2 + 1, none⟩ = some (.int .i64 cc.y) := fun m => (GH.out ⟨m.w, DD.out m⟩ m2 cc HCC.out).2
          have hw2 : IntKind.i64.wrap ((k : Int) + 2) = (k : Int) + 2 := (wrapEq _).trans (w64 (by omega))
          obtain ⟨t1, ht1⟩ : ∃ t, trn a bb cc = t := ⟨_, rfl⟩
          simp only [ht1] at D2 HQ
          have hw1 : IntKind.i64.wrap ((k : Int) + 1) = (k : Int) + 1 := (wrapEq _).trans (w64 (by omega))
          have hx : (∃ z, decide ((2 : Int) < (h.length : Int)) = z ∧ (z = true → t1 = 1)) := ⟨_, rfl, fun e => HQ.out.1 (by have := of_decide_eq_true e; omega)⟩
          obtain ⟨z, hz, hzt⟩ := hx
          have HZ := Lib.hid hz
          cases z
          · have hn2' : ¬ (2 : Int) < (h.length : Int) := of_decide_eq_false hz
            clear hzt hz
            refine wp_region_in D (HD.out _ _ (Wd.h _) (below_dr _)) (by kernel_rfl) (by kernel_rfl) ?_
            repeat (go_big_quiet_step (first | with_reducible exact (D1 _).out | with_reducible exact (D2 _).out))
            refine wpQuiet_nil ?_
            intro wx hwx
            obtain ⟨n2, rfl⟩ : ∃ n : Wd D, wx = n.w := ⟨⟨wx, hwx⟩, rfl⟩
            clear hwx
            clear D1 D2 gc1 gc2
            go_wp2_with fail
            go_loopg [11] l.length (fun gh j wr => ∃ (t : Nat) (m : Wd D), wr = m.w ∧ j = .int .i64 (t : Int) ∧ t ≤ l.length ∧ l.length - t ≤ gh)
            case atStart => exact ⟨0, n2, rfl, rfl, by omega, by omega⟩
            case round =>
              obtain ⟨t, m, rfl, rfl, ht, hg2⟩ := hrel
              by_cases hlt2 : t < l.length
              · obtain ⟨p, hp⟩ : ∃ p, l[t]? = some p := ⟨_, List.getElem?_eq_getElem hlt2⟩
                obtain ⟨h0, hone, htwo⟩ := HQ.out.2 p (List.mem_of_getElem? hp)
                have T3 := fun W => Turn_any a bb p W
                have T4 := fun W => On_any ⟨a, bb⟩ p W
                obtain ⟨tv, htv⟩ : ∃ x, trn a bb p = x := ⟨_, rfl⟩
                obtain ⟨ov, hov⟩ : ∃ x, onS ⟨a, bb⟩ p = x := ⟨_, rfl⟩
                simp only [htv] at T3 h0
                simp only [hov] at T4 htwo
                have D3 := cin HD T3
                have D4 := cin HD T4
                have gl1 : ∀ m : Wd D, m.w.cell? ⟨b, o + t * 2, none⟩ = some (.int .i64 p.x) := fun m => (GL.out ⟨m.w, DD.out m⟩ t p hp).1
                have gl2 : ∀ m : Wd D, m.w.cell? ⟨b, o + t * 2 + 1, none⟩ = some (.int .i64 p.y) := fun m => (GL.out ⟨m.w, DD.out m⟩ t p hp).2
                have kn := fun W => neP2_run p a W
                have hd0 : decide (tv < 0) = false := decide_eq_false (by omega)
                have hlt2' : (t : Int) < (l.length : Int) := by omega
                clear T3 T4 htv hov hp
                by_cases n1e : h.length = 1
                · have hpa : ptE p a = true := by unfold ptE; exact decide_eq_true (hone n1e)
                  rw [hpa] at kn
                  have kn' : ∀ W, (binOp .neq 23 p.v a.v).run Try.prog W = .ok (.bool false) W := kn
                  have e1 : ((h.length : Int) == 1) = true := by rw [beq_iff_eq]; omega
                  have e2 : ((h.length : Int) == 2) = false := by rw [beq_eq_false_iff_ne]; omega
                  clear hone htwo hpa kn n1e
                  go_wp2_with fail
                  refine wp_region_in D (HD.out _ _ (Wd.h _) (below_dr _)) (by kernel_rfl) (by kernel_rfl) ?_
                  repeat (go_big_quiet_step (first | with_reducible exact (D3 _).out | with_reducible exact (D4 _).out))
                  refine wpQuiet_nil ?_
                  intro wx hwx
                  obtain ⟨m2, rfl⟩ : ∃ n : Wd D, wx = n.w := ⟨⟨wx, hwx⟩, rfl⟩
                  clear hwx
                  go_wp2_with fail
                  go_roundg (l.length - (t + 1))
                  case measure => omega
                  case rel => exact ⟨t + 1, m2, rfl, by simp, by omega, Nat.le_refl _⟩
                · have e1 : ((h.length : Int) == 1) = false := by rw [beq_eq_false_iff_ne]; omega
                  by_cases n2e : h.length = 2
                  · obtain rfl : ov = true := htwo n2e
                    have e2 : ((h.length : Int) == 2) = true := by rw [beq_iff_eq]; omega
                    clear hone htwo n1e n2e
                    go_wp2_with fail
                    refine wp_region_in D (HD.out _ _ (Wd.h _) (below_dr _)) (by kernel_rfl) (by kernel_rfl) ?_
                    repeat (go_big_quiet_step (first | with_reducible exact (D3 _).out | with_reducible exact (D4 _).out))
                    refine wpQuiet_nil ?_
                    intro wx hwx
                    obtain ⟨m2, rfl⟩ : ∃ n : Wd D, wx = n.w := ⟨⟨wx, hwx⟩, rfl⟩
                    clear hwx
                    go_wp2_with fail
                    go_roundg (l.length - (t + 1))
                    case measure => omega
                    case rel => exact ⟨t + 1, m2, rfl, by simp, by omega, Nat.le_refl _⟩
                  · have e2 : ((h.length : Int) == 2) = false := by rw [beq_eq_false_iff_ne]; omega
                    clear hone htwo n1e n2e
                    go_wp2_with fail
                    refine wp_region_in D (HD.out _ _ (Wd.h _) (below_dr _)) (by kernel_rfl) (by kernel_rfl) ?_
                    repeat (go_big_quiet_step (first | with_reducible exact (D3 _).out | with_reducible exact (D4 _).out))
                    refine wpQuiet_nil ?_
                    intro wx hwx
                    obtain ⟨m2, rfl⟩ : ∃ n : Wd D, wx = n.w := ⟨⟨wx, hwx⟩, rfl⟩
                    clear hwx
                    go_wp2_with fail
                    go_roundg (l.length - (t + 1))
                    case measure => omega
                    case rel => exact ⟨t + 1, m2, rfl, by simp, by omega, Nat.le_refl _⟩
              · obtain rfl : t = l.length := by omega
                go_wp2_with fail
                go_roundg (h.length - (k + 1))
                case measure => omega
                case rel => exact ⟨k + 1, ⟨m.w, DD.out m⟩, rfl, by simp, by omega, Nat.le_refl _⟩
          · have hn2' : (2 : Int) < (h.length : Int) := of_decide_eq_true hz
            obtain rfl := hzt rfl
            clear hzt hz
            refine wp_region_in D (HD.out _ _ (Wd.h _) (below_dr _)) (by kernel_rfl) (by kernel_rfl) ?_
            repeat (go_big_quiet_step (first | with_reducible exact (D1 _).out | with_reducible exact (D2 _).out))
            refine wpQuiet_nil ?_
            intro wx hwx
            obtain ⟨n2, rfl⟩ : ∃ n : Wd D, wx = n.w := ⟨⟨wx, hwx⟩, rfl⟩
            clear hwx
            clear D1 D2 gc1 gc2
            go_wp2_with fail
            go_loopg [11] l.length (fun gh j wr => ∃ (t : Nat) (m : Wd D), wr = m.w ∧ j = .int .i64 (t : Int) ∧ t ≤ l.length ∧ l.length - t ≤ gh)
            case atStart => exact ⟨0, n2, rfl, rfl, by omega, by omega⟩
            case round =>
              obtain ⟨t, m, rfl, rfl, ht, hg2⟩ := hrel
              by_cases hlt2 : t < l.length
              · obtain ⟨p, hp⟩ : ∃ p, l[t]? = some p := ⟨_, List.getElem?_eq_getElem hlt2⟩
                obtain ⟨h0, hone, htwo⟩ := HQ.out.2 p (List.mem_of_getElem? hp)
                have T3 := fun W => Turn_any a bb p W
                have T4 := fun W => On_any ⟨a, bb⟩ p W
                obtain ⟨tv, htv⟩ : ∃ x, trn a bb p = x := ⟨_, rfl⟩
                obtain ⟨ov, hov⟩ : ∃ x, onS ⟨a, bb⟩ p = x := ⟨_, rfl⟩
                simp only [htv] at T3 h0
                simp only [hov] at T4 htwo
                have D3 := cin HD T3
                have D4 := cin HD T4
                have gl1 : ∀ m : Wd D, m.w.cell? ⟨b, o + t * 2, none⟩ = some (.int .i64 p.x) := fun m => (GL.out ⟨m.w, DD.out m⟩ t p hp).1
                have gl2 : ∀ m : Wd D, m.w.cell? ⟨b, o + t * 2 + 1, none⟩ = some (.int .i64 p.y) := fun m => (GL.out ⟨m.w, DD.out m⟩ t p hp).2
                have kn := fun W => neP2_run p a W
                have hd0 : decide (tv < 0) = false := decide_eq_false (by omega)
                have hlt2' : (t : Int) < (l.length : Int) := by omega
                clear T3 T4 htv hov hp
                by_cases n1e : h.length = 1
                · have hpa : ptE p a = true := by unfold ptE; exact decide_eq_true (hone n1e)
                  rw [hpa] at kn
                  have kn' : ∀ W, (binOp .neq 23 p.v a.v).run Try.prog W = .ok (.bool false) W := kn
                  have e1 : ((h.length : Int) == 1) = true := by rw [beq_iff_eq]; omega
                  have e2 : ((h.length : Int) == 2) = false := by rw [beq_eq_false_iff_ne]; omega
                  clear hone htwo hpa kn n1e
                  go_wp2_with fail
                  refine wp_region_in D (HD.out _ _ (Wd.h _) (below_dr _)) (by kernel_rfl) (by kernel_rfl) ?_
                  repeat (go_big_quiet_step (first | with_reducible exact (D3 _).out | with_reducible exact (D4 _).out))
                  refine wpQuiet_nil ?_
                  intro wx hwx
                  obtain ⟨m2, rfl⟩ : ∃ n : Wd D, wx = n.w := ⟨⟨wx, hwx⟩, rfl⟩
                  clear hwx
                  go_wp2_with fail
                  go_roundg (l.length - (t + 1))
                  case measure => omega
                  case rel => exact ⟨t + 1, m2, rfl, by simp, by omega, Nat.le_refl _⟩
                · have e1 : ((h.length : Int) == 1) = false := by rw [beq_eq_false_iff_ne]; omega
                  by_cases n2e : h.length = 2
                  · obtain rfl : ov = true := htwo n2e
                    have e2 : ((h.length : Int) == 2) = true := by rw [beq_iff_eq]; omega
                    clear hone htwo n1e n2e
                    go_wp2_with fail
                    refine wp_region_in D (HD.out _ _ (Wd.h _) (below_dr _)) (by kernel_rfl) (by kernel_rfl) ?_
                    repeat (go_big_quiet_step (first | with_reducible exact (D3 _).out | with_reducible exact (D4 _).out))
                    refine wpQuiet_nil ?_
                    intro wx hwx
                    obtain ⟨m2, rfl⟩ : ∃ n : Wd D, wx = n.w := ⟨⟨wx, hwx⟩, rfl⟩
                    clear hwx
                    go_wp2_with fail
                    go_roundg (l.length - (t + 1))
                    case measure => omega
                    case rel => exact ⟨t + 1, m2, rfl, by simp, by omega, Nat.le_refl _⟩
                  · have e2 : ((h.length : Int) == 2) = false := by rw [beq_eq_false_iff_ne]; omega
                    clear hone htwo n1e n2e
                    go_wp2_with fail
                    refine wp_region_in D (HD.out _ _ (Wd.h _) (below_dr _)) (by kernel_rfl) (by kernel_rfl) ?_
                    repeat (go_big_quiet_step (first | with_reducible exact (D3 _).out | with_reducible exact (D4 _).out))
                    refine wpQuiet_nil ?_
                    intro wx hwx
                    obtain ⟨m2, rfl⟩ : ∃ n : Wd D, wx = n.w := ⟨⟨wx, hwx⟩, rfl⟩
                    clear hwx
                    go_wp2_with fail
                    go_roundg (l.length - (t + 1))
                    case measure => omega
                    case rel => exact ⟨t + 1, m2, rfl, by simp, by omega, Nat.le_refl _⟩
              · obtain rfl : t = l.length := by omega
                go_wp2_with fail
                go_roundg (h.length - (k + 1))
                case measure => omega
                case rel => exact ⟨k + 1, ⟨m.w, DD.out m⟩, rfl, by simp, by omega, Nat.le_refl _⟩
        · obtain rfl : k = h.length := by omega
          go_wp2_with (go_at_call 38; with_reducible refine (BX _).mono ?_; rintro e w' ⟨rfl, hb⟩)
          go_ret
          exact ⟨rfl, B3.out.trans (((BC.out n).trans (hb.mono (BC.out n).size)).mono B3.out.size)⟩
    · have H1 := Lib.hid (Hull_err q cap l w hl hp hck)
      obtain ⟨c, hc⟩ : ∃ c, ck 1 l = c := ⟨_, rfl⟩
      rw [hc] at H1 hck
      have he' : (c == 0) = false := by simpa using hck
      have he2 : (c != 0) = true := by simpa using hck
      clear hc hp
      go_enter Try.func13, Try.ntmps13
      go_wp2_with (go_at_call 39; with_reducible refine H1.out.mono ?_; rintro e w1 ⟨rfl, hb1⟩)
      have HB := Lib.hid hb1
      clear hb1 H1
      go_wp2_with (go_at_call 38; with_reducible refine (BX _).mono ?_; rintro e w' ⟨rfl, hb⟩)
      go_ret
      exact ⟨rfl, HB.out.trans (hb.mono HB.out.size)⟩
theorem hullLaw (q : Option Addr) (cap : Nat) (l : List Pt) (w : World) (hl : l.length ≤ 140737488355327) (hp : PtsAt w q l) :
    Calls Try.prog 13 #[.slice q l.length cap] w fun e w' => e = .returned (.bool true) ∧ Below w.heap.size w w' := hullsLaw boxes_is q cap l w hl hp
end Go.Proofs.Ytdefpcjlbganpaa
