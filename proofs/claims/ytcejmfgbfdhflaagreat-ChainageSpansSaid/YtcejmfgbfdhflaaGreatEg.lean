import Derived.Test.YtcejmfgbfdhflaaGreatEf
import Derived.Test.YtcejmfgbfdhflaaGreatEd
import Derived.Test.YtcejmfgbfdhflaaGreatEe
import Derived.Test.YtcejmfgbfdhflaaGreatQe
import Derived.Test.YtcejmfgbfdhflaaGreatQd
import Derived.WalkKit
import Derived.LoopTactic
import Derived.WalkSpells
import Derived.WalkLawsBesides
import Derived.Lib.Hide
import Derived.BigQuiet
import Derived.IntWalk
import Derived.Deep.DeepMust
import Derived.WalkSmall
import Derived.StillTailTactics
import Derived.Deep.RegionLaw
import Derived.Deep.RegionHeld3
import Derived.Deep.QuietTactic
namespace Go.Proofs.YtcejmfgbfdhflaaGreat
open Go.RowKit Go.BigFrame Go.Sort
attribute [local go_sem] World.cell?_alloc_some
/-- The index of a chain; -1 if there is none. -/
def atI (l : List Ch) (id : Int) : Int := match l.findIdx? (fun c => c.id == id) with | some k => (k : Int) | none => -1
theorem atI_hit {l : List Ch} {id : Int} {k : Nat} (h : k < l.length) (ha : ∀ j, (hj : j < l.length) → j < k → l[j].id ≠ id) (he : l[k].id = id) : atI l id = (k : Int) := by
  unfold atI
  rw [List.findIdx?_eq_some_iff_getElem.2 ⟨h, by simpa using he, fun j hj => by simpa using ha j (by omega) hj⟩]
theorem atI_no {l : List Ch} {id : Int} (ha : ∀ j, (hj : j < l.length) → l[j].id ≠ id) : atI l id = -1 := by
  unfold atI
  rw [List.findIdx?_eq_none_iff.2 (fun c hc => by
    obtain ⟨j, hj, rfl⟩ := List.getElem_of_mem hc
    simpa using ha j hj)]
theorem atI_some {l : List Ch} {id : Int} {c : Ch} (h : chF l id = some c) : ∃ k : Nat, ∃ h : k < l.length, atI l id = (k : Int) ∧ l[k] = c := by
  unfold chF at h
  rw [List.find?_eq_some_iff_getElem] at h
  obtain ⟨h1, k, hk, rfl, h3⟩ := h
  exact ⟨k, hk, atI_hit hk (fun j hj hjk => by simpa using h3 j hjk) (by simpa using h1), rfl⟩
theorem atI_none {l : List Ch} {id : Int} (h : (chF l id).isSome = false) : atI l id = -1 := by
  unfold chF at h
  rw [Option.isSome_eq_false_iff, Option.isNone_iff_eq_none, List.find?_eq_none] at h
  exact atI_no fun j hj => by simpa using h _ (List.getElem_mem hj)
set_option maxRecDepth 100000 in
set_option maxHeartbeats 1600000 in
theorem chainAtD_any (x : WA) (id : Int) (w : World) (h : x.At w) :
    Calls Tryz.prog 71 #[x.v, .int .i64 id] w fun e w' => e = .returned (.int .i64 (atI x.cs id)) ∧ Below w.heap.size w w' := by
  have H := Lib.hid h.cs
  have n1 := h.n1
  have k1 := h.k1
  clear h
  obtain ⟨A, hA⟩ : ∃ A, atI x.cs id = A := ⟨_, rfl⟩
  rw [hA]
  have HA0 := Lib.hid hA
  clear hA
  obtain ⟨cs, ps, rs, q1, q2, q3, c1, c2, c3⟩ := x
  simp only [WA.v] at *
  go_enter Tryz.func71, Tryz.ntmps71
  go_wp2_with fail
  obtain ⟨W0, hW0⟩ : ∃ W0, (w).alloc (.cells #[.slice q1 cs.length c1, .slice q2 ps.length c2, .slice q3 rs.length c3] 26) = W0 := ⟨_, rfl⟩
  have S0 : St w W0 [(w.heap.size, 0, .slice q1 cs.length c1), (w.heap.size, 1, .slice q2 ps.length c2), (w.heap.size, 2, .slice q3 rs.length c3)] := by rw [← hW0]; exact ((St.nil w)).box #[.slice q1 cs.length c1, .slice q2 ps.length c2, .slice q3 rs.length c3] 26 (w.heap.size) (by simp)
  rw [hW0]
  clear hW0
  obtain ⟨C, hC0, HC, LC, BC, hne⟩ := cls S0
  haveI := hne
  obtain ⟨c0, rfl⟩ : ∃ n : Wd C, W0 = n.w := ⟨⟨_, hC0⟩, rfl⟩
  have fC0 : ∀ n : Wd C, n.w.cell? ⟨w.heap.size, 0, none⟩ = some (.slice q1 cs.length c1) := fun n => (LC.out n).1.2.1
  have fC1 : ∀ n : Wd C, n.w.cell? ⟨w.heap.size, 1, none⟩ = some (.slice q2 ps.length c2) := fun n => (LC.out n).2.1.2.1
  have fC2 : ∀ n : Wd C, n.w.cell? ⟨w.heap.size, 2, none⟩ = some (.slice q3 rs.length c3) := fun n => (LC.out n).2.2.1.2.1
  clear S0 hC0
  go_loopw [5] (fun i wr => wr = c0.w ∧ ∃ (k : Nat), i = .int .i64 (k : Int) ∧ k ≤ cs.length ∧ ∀ j, (hj : j < cs.length) → j < k → cs[j].id ≠ id) (fun i wr => cs.length - (intOf i).toNat)
  case atStart => exact ⟨rfl, 0, rfl, Nat.zero_le _, fun j _ h => absurd h (by omega)⟩
  case round =>
    obtain ⟨rfl, k, rfl, hk, ha⟩ := hrel
    have HA := Lib.hid ha
    clear ha
    by_cases hlt : k < cs.length
    · rcases H.out with h0 | ⟨b, o, rfl, hb, hc⟩
      · exact absurd hlt (by simp [show cs = [] from h0])
      · obtain ⟨d1, -⟩ := hc k cs[k] (List.getElem?_eq_getElem hlt)
        have b1 := ((BC.out c0).cell (p := ⟨b, o + k * 5, none⟩) hb).trans d1
        have HX := Lib.hid hlt
        obtain ⟨cc, hc0⟩ : ∃ c, cs[k] = c := ⟨_, rfl⟩
        replace b1 : c0.w.cell? ⟨b, o + k * 5, none⟩ = some (.int .i64 cc.id) := by rw [← hc0]; exact b1
        have hcc : cs[k].id = cc.id := by rw [hc0]
        obtain ⟨c, hcd⟩ : ∃ c, cc.id = c := ⟨_, rfl⟩
        rw [hcd] at hcc b1
        have HC2 := Lib.hid hcc
        have hlt' : (k : Int) < (cs.length : Int) := by omega
        clear d1 hc hcc hb hc0 hcd
        by_cases he : c = id
        · subst he
          obtain rfl : (k : Int) = A := by rw [← HA0.out, atI_hit hlt (fun j hj hjk => HA.out j hj hjk) HC2.out]
          go_wp2_with fail
          go_ret
          exact ⟨rfl, BC.out _⟩
        · have he' : (c == id) = false := by simpa using he
          have HE := Lib.hid he
          clear he
          go_wp2_with fail
          go_roundw
          case rel => exact ⟨by first | rfl | trivial, k + 1, by simp, hlt, fun j hj hjk => by
            by_cases e : j = k
            · subst e; exact fun e2 => HE.out (HC2.out.symm.trans e2)
            · exact HA.out j hj (by omega)⟩
          case measure => simp [intOf]; omega
    · obtain rfl : k = cs.length := by omega
      obtain rfl : -1 = A := by rw [← HA0.out, atI_no (fun j hj => HA.out j hj hj)]
      go_wp2_with fail
      go_ret
      exact ⟨rfl, BC.out _⟩
theorem rests_eq {x : WA} {ch y : Int} (h : agE x ch y = 0) : rsLo x ch y = lowNo (spO x (chOr x.cs ch) y).wear y (spO x (chOr x.cs ch) y).ths ∧ rsHi x ch y = topNo (spO x (chOr x.cs ch) y).wear y (spO x (chOr x.cs ch) y).ths := by
  unfold rsLo rsHi
  rw [if_pos h, if_pos h]
  exact ⟨rfl, rfl⟩
/-- What is known of a spell, from the specification's list. -/
structure Kno (x : WA) (c : Ch) (ch y : Int) (IL : List Th) (A B1 LA LB E : Int) : Prop where
  ok : ∀ t ∈ IL, okTh t = true
  len : IL.length ≤ 1000
  wr : 0 ≤ c.wear ∧ c.wear ≤ 1000
  yr : 0 ≤ y ∧ y ≤ 4000
  yes : AnyCl c.wear IL → E = 9 ∧ A = 0 ∧ B1 = 0 ∧ LA = 0 ∧ LB = 0
  no : ¬ AnyCl c.wear IL → E = 0 ∧ limA c.wear y IL = (A, LA) ∧ limB c.wear y IL = (B1, LB)
theorem kno_of {x : WA} {ch y : Int} {c : Ch} (hs : sE x ch y = 0) (hc : chF x.cs ch = some c) :
    Kno x c ch y (inL x c (spO x c y).lo (spO x c y).hi) (lgLo x ch y) (lgHi x ch y) (rsLo x ch y) (rsHi x ch y) (agE x ch y) := by
  obtain ⟨h1, -, h4, h5⟩ := sE_zero hs
  have hcc := chOr_some hc
  rw [hcc] at h4
  have hw := okW_of h1
  have hkc := okC_of hw hc
  have hp := inL_perm hw hkc h4
  have hok := spO_ok hs
  rw [hcc] at hok
  obtain ⟨k1, k2, k3⟩ := okS_iff.1 hok.1
  have hwear : (spO x c y).wear = c.wear := rfl
  refine ⟨fun t ht => k3 t (hp.subset ht), by rw [hp.length_eq]; exact k1, k2, hok.2, fun ha => ?_, fun ha => ?_⟩
  · have e : agE x ch y = 9 := by
      unfold agE
      rw [if_neg (by simpa using hs), hcc, if_neg]
      intro e
      exact (clS_nil _).1 e ((anyCl_perm hp).1 ha)
    have e0 : ¬ agE x ch y = 0 := by rw [e]; decide
    refine ⟨e, ?_, ?_, ?_, ?_⟩
    · unfold lgLo; rw [if_neg e0]
    · unfold lgHi; rw [if_neg e0]
    · unfold rsLo; rw [if_neg e0]
    · unfold rsHi; rw [if_neg e0]
  · have e : agE x ch y = 0 := by
      unfold agE
      rw [if_neg (by simpa using hs), hcc, if_pos]
      exact (clS_nil _).2 fun h => ha ((anyCl_perm hp).2 h)
    obtain ⟨r1, r2⟩ := rests_eq e
    rw [hcc] at r1 r2
    refine ⟨e, ?_, ?_⟩
    · unfold limA
      rw [r1, lgLo, if_pos e, hcc, lowS, ← lowNo_perm hp]
      rw [mxs_perm 9000 (hp.map fun t => lowT c.wear t y)]
      rfl
    · unfold limB
      rw [r2, lgHi, if_pos e, hcc, highS, ← topNo_perm hp]
      rw [mns_perm 12000 (hp.map fun t => highT c.wear t y)]
      rfl
end Go.Proofs.YtcejmfgbfdhflaaGreat
