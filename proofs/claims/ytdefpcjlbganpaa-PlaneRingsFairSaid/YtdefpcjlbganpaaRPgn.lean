import Derived.Test.YtdefpcjlbganpaaRMeet
import Derived.WalkKit
import Derived.LoopTactic
import Derived.WalkSpells
import Derived.WalkLawsBesides
import Derived.Lib.Hide
import Derived.BigQuiet
import Derived.IntWalk
import Derived.Deep.DeepMust
import Derived.WalkSmall
import Derived.StillTailTactics
import Derived.Deep.RegionLaw
import Derived.Deep.RegionHeld3
import Derived.Deep.QuietTactic
import Derived.Deep.DeepCutAuto
import Derived.Laws.AppendOwn
import Derived.Deep.CutBlock
namespace Go.Proofs.Ytdefpcjlbganpaa
open Go.RowKit Go.BigFrame
attribute [local go_sem] World.cell?_alloc_some
set_option maxHeartbeats 1000000 in
theorem rpoints_any (least : Nat) (p : Option Addr) (cap : Nat) (l : List Pt) (w : World) (hl : l.length ≤ 140737488355327) (hp : PtsAt w p l) :
   Calls Try.prog 92 #[.slice p l.length cap, .int .i64 (least : Int)] w fun e w' => e = .returned (.int .i64 (ck least l)) ∧ Below w.heap.size w w' := by
  obtain ⟨c, hc⟩ : ∃ c, Hid (ck least l = c) := ⟨_, rfl⟩
  rw [hc.out]
  by_cases h1 : (l.length : Int) < (least : Int)
  · have hc1 : c = 2 := hc.out.symm.trans (ck_short (Or.inl (by omega)))
    subst hc1
    clear hc
    go_enter Try.func92, Try.ntmps92
    go_wp2_with fail
    go_ret
    exact ⟨rfl, Below.refl _ _⟩
  · by_cases h2 : (200 : Int) < (l.length : Int)
    · have hc1 : c = 2 := hc.out.symm.trans (ck_short (Or.inr (by omega)))
      subst hc1
      clear hc
      go_enter Try.func92, Try.ntmps92
      go_wp2_with fail
      go_ret
      exact ⟨rfl, Below.refl _ _⟩
    · have CV := Lib.hid (valid_any p cap l w (by omega) hp)
      cases hv : l.all okP with
      | true =>
        have hc1 : c = 0 := hc.out.symm.trans (ck_all (by omega) hv)
        subst hc1
        rw [hv] at CV
        clear hc hv hp
        go_enter Try.func92, Try.ntmps92
        go_wp2_with (go_at_call 80; refine CV.out.mono ?_; rintro e w' ⟨rfl, hb⟩)
        go_ret
        exact ⟨rfl, hb⟩
      | false =>
        have hc1 : c = 1 := hc.out.symm.trans (ck_not (by omega) hv)
        subst hc1
        rw [hv] at CV
        clear hc hv hp
        go_enter Try.func92, Try.ntmps92
        go_wp2_with (go_at_call 80; refine CV.out.mono ?_; rintro e w' ⟨rfl, hb⟩)
        go_ret
        exact ⟨rfl, hb⟩
theorem aw_step (n A B : Int) : wrap64 (wrap64 (n + A) - B) = wrap64 (n + wrap64 (A - B)) := by unfold wrap64; omega
theorem wrap_idem (n : Int) : wrap64 (wrap64 n) = wrap64 n := by unfold wrap64; omega
theorem aw_step2 (n A B : Int) : wrap64 (wrap64 (n + wrap64 A) - wrap64 B) = wrap64 (n + wrap64 (wrap64 A - wrap64 B)) := aw_step n _ _
set_option maxRecDepth 100000 in
set_option maxHeartbeats 4000000 in
theorem rArea_any (q : Option Addr) (cap : Nat) (l : List Pt) (w : World) (hl : l.length ≤ 140737488355327) (hp : PtsAt w q l) :
    Calls Try.prog 31 #[.slice q l.length cap] w fun e w' => e = .returned (arRes l) ∧ Below w.heap.size w w' := by
  obtain ⟨c, hc⟩ : ∃ c, ck 3 l = c := ⟨_, rfl⟩
  have CP := Lib.hid (rpoints_any 3 q cap l w hl hp)
  rw [hc] at CP
  by_cases h0 : c = 0
  · subst h0
    obtain ⟨h3, h200, hall⟩ := ck_len hc
    have hR : Hid (arRes l = .tuple #[.int .i64 (awr (egs l)), .int .i64 0]) := by unfold Hid arRes; rw [if_pos hc]
    rw [hR.out]
    obtain ⟨b, o, rfl, hbl, hcc⟩ := pts_cells hp (by omega)
    have HCC := Lib.hid hcc
    clear hR hc hall hp hcc
    have hpos : 0 < l.length := by omega
    clear h3
    go_enter Try.func31, Try.ntmps31
    go_wp2_with (go_at_call 92; refine CP.out.mono ?_; rintro e w1 ⟨rfl, hb1⟩)
    have S : St w w1 [] := ⟨hb1, trivial⟩
    clear hb1 CP
    obtain ⟨C, hC0, HC, LC, BC, hne⟩ := cls S
    haveI := hne
    obtain ⟨c0, rfl⟩ : ∃ n : Wd C, w1 = n.w := ⟨⟨_, hC0⟩, rfl⟩
    clear S hC0
    go_loopw [5, 6] (fun v i wr => ∃ (k : Nat) (n : Wd C), wr = n.w ∧ i = .int .i64 (k : Int) ∧ k ≤ l.length ∧ v = .int .i64 (awr (upto (fun j => (j, eg l j)) k))) (fun v i wr => l.length - (intOf i).toNat)
    case atStart => exact ⟨0, c0, rfl, rfl, Nat.zero_le _, rfl⟩
    case round =>
      obtain ⟨k, n, rfl, rfl, hk, rfl⟩ := hrel
      by_cases hlt : k < l.length
      · obtain ⟨m, hm⟩ : ∃ m : Nat, (k + 1) % l.length = m := ⟨_, rfl⟩
        have hm1 : m < l.length := by rw [← hm]; exact Nat.mod_lt _ (by omega)
        have hm2 : ((k : Int) + 1).tmod (l.length : Int) = (m : Int) := by rw [← hm, Int.tmod_eq_emod_of_nonneg (by omega)]; simp
        have hE : Hid (eg l k = ⟨pt l k, pt l m⟩) := by unfold Hid; rw [eg, hm]
        have g1 : n.w.cell? ⟨b, o + k * 2, none⟩ = some (.int .i64 (pt l k).x) := ((BC.out n).cell (p := ⟨b, o + k * 2, none⟩) hbl).trans (HCC.out k hlt).1
        have g2 : n.w.cell? ⟨b, o + k * 2 + 1, none⟩ = some (.int .i64 (pt l k).y) := ((BC.out n).cell (p := ⟨b, o + k * 2 + 1, none⟩) hbl).trans (HCC.out k hlt).2
        have g3 : n.w.cell? ⟨b, o + m * 2, none⟩ = some (.int .i64 (pt l m).x) := ((BC.out n).cell (p := ⟨b, o + m * 2, none⟩) hbl).trans (HCC.out m hm1).1
        have g4 : n.w.cell? ⟨b, o + m * 2 + 1, none⟩ = some (.int .i64 (pt l m).y) := ((BC.out n).cell (p := ⟨b, o + m * 2 + 1, none⟩) hbl).trans (HCC.out m hm1).2
        obtain ⟨A, hA⟩ : ∃ A, awr (upto (fun j => (j, eg l j)) k) = A := ⟨_, rfl⟩
        have HN : Hid (awr (upto (fun j => (j, eg l j)) (k + 1)) = wrap64 (wrap64 (A + wrap64 ((pt l k).x * (pt l m).y)) - wrap64 ((pt l m).x * (pt l k).y))) := by
          unfold Hid; rw [upto_succ, awr_snoc, hA, aw_step2, awStep, hE.out]
        rw [hA]
        have hw0 : IntKind.i64.wrap ((k : Int) + 1) = (k : Int) + 1 := (wrapEq _).trans (w64 (by omega))
        have hz1 : ¬ ((l.length : Int) = 0) := by omega
        have hz2 : ¬ (l.length = 0) := by omega
        have hz3 : ¬ (l = []) := fun h => by rw [h] at hlt; exact absurd hlt (by simp)
        have hz4 : (m : Int) < (l.length : Int) := by omega
        clear hm hA hE
        go_wp2_with fail
        go_roundw
        case rel => exact ⟨k + 1, ⟨_, HC.out _ _ n.h ((below_al' _ _).trans ((below_al' _ _).mono (by simp)))⟩, rfl, by simp, by omega, by rw [HN.out]⟩
        case measure => simp [intOf]; omega
      · obtain rfl : k = l.length := by omega
        go_wp2_with fail
        go_ret2
        exact ⟨rfl, BC.out _⟩
  · have hR : Hid (arRes l = .tuple #[.int .i64 0, .int .i64 c]) := by unfold Hid arRes; rw [if_neg (by rw [hc]; exact h0), hc]
    rw [hR.out]
    clear hR hc
    go_enter Try.func31, Try.ntmps31
    go_wp2_with (go_at_call 92; refine CP.out.mono ?_; rintro e w1 ⟨rfl, hb1⟩)
    go_ret2
    exact ⟨rfl, hb1⟩
/-- Does an edge have a point? -/
def orB (p : Pt) (x : Nat × Sg) : Bool := onR x.2.a x.2.b p
theorem pt_ok {l : List Pt} (h : l.all okP = true) {j : Nat} (hj : j < l.length) : okP (pt l j) = true := by
  rw [List.all_eq_true] at h
  refine h _ ?_
  unfold pt
  rw [List.getD_eq_getElem?_getD, List.getElem?_eq_getElem hj]
  exact List.getElem_mem hj
set_option maxRecDepth 100000 in
set_option maxHeartbeats 4000000 in
theorem ralong_any (q : Option Addr) (cap : Nat) (l : List Pt) (p : Pt) (w : World) (hl : l.length ≤ 1000) (h0 : 0 < l.length) (hv : l.all okP = true) (hpv : okP p = true) (hp : PtsAt w q l) :
    Calls Try.prog 97 #[.slice q l.length cap, p.v] w fun e w' => e = .returned (.bool ((egs l).any (orB p))) ∧ Below w.heap.size w w' := by
  obtain ⟨b, o, rfl, hbl, hcc⟩ := pts_cells hp h0
  have HCC := Lib.hid hcc
  have HV := Lib.hid (And.intro hv hpv)
  clear hp hcc hv hpv
  go_enter Try.func97, Try.ntmps97
  go_wp2_with fail
  obtain ⟨W0, hW0⟩ : ∃ W0, (w).alloc (.cells #[.int .i64 p.x, .int .i64 p.y] 23) = W0 := ⟨_, rfl⟩
  have S0 : St w W0 [(w.heap.size, 0, .int .i64 p.x), (w.heap.size, 1, .int .i64 p.y)] := by rw [← hW0]; exact ((St.nil w)).box #[.int .i64 p.x, .int .i64 p.y] 23 (w.heap.size) (by simp)
  rw [hW0]
  clear hW0
  obtain ⟨C, hC0, HC, LC, BC, hne⟩ := cls S0
  haveI := hne
  obtain ⟨c0, rfl⟩ : ∃ n : Wd C, W0 = n.w := ⟨⟨_, hC0⟩, rfl⟩
  have fC0 : ∀ n : Wd C, n.w.cell? ⟨w.heap.size, 0, none⟩ = some (.int .i64 p.x) := fun n => (LC.out n).1.2.1
  have fC1 : ∀ n : Wd C, n.w.cell? ⟨w.heap.size, 1, none⟩ = some (.int .i64 p.y) := fun n => (LC.out n).2.1.2.1
  clear S0 hC0
  go_loopw [5] (fun i wr => ∃ (k : Nat) (n : Wd C), wr = n.w ∧ i = .int .i64 (k : Int) ∧ k ≤ l.length ∧ (upto (fun j => (j, eg l j)) k).any (orB p) = false) (fun i wr => l.length - (intOf i).toNat)
  case atStart => exact ⟨0, c0, rfl, rfl, Nat.zero_le _, rfl⟩
  case round =>
    obtain ⟨k, n, rfl, rfl, hk, hall⟩ := hrel
    have HA := Lib.hid hall
    clear hall
    by_cases hlt : k < l.length
    · obtain ⟨m, hm⟩ : ∃ m : Nat, (k + 1) % l.length = m := ⟨_, rfl⟩
      have hm1 : m < l.length := by rw [← hm]; exact Nat.mod_lt _ (by omega)
      have hm2 : ((k : Int) + 1).tmod (l.length : Int) = (m : Int) := by rw [← hm, Int.tmod_eq_emod_of_nonneg (by omega)]; simp
      have g1 : ∀ n : Wd C, n.w.cell? ⟨b, o + k * 2, none⟩ = some (.int .i64 (pt l k).x) := fun n => ((BC.out n).cell (p := ⟨b, o + k * 2, none⟩) hbl).trans (HCC.out k hlt).1
      have g2 : ∀ n : Wd C, n.w.cell? ⟨b, o + k * 2 + 1, none⟩ = some (.int .i64 (pt l k).y) := fun n => ((BC.out n).cell (p := ⟨b, o + k * 2 + 1, none⟩) hbl).trans (HCC.out k hlt).2
      have g3 : ∀ n : Wd C, n.w.cell? ⟨b, o + m * 2, none⟩ = some (.int .i64 (pt l m).x) := fun n => ((BC.out n).cell (p := ⟨b, o + m * 2, none⟩) hbl).trans (HCC.out m hm1).1
      have g4 : ∀ n : Wd C, n.w.cell? ⟨b, o + m * 2 + 1, none⟩ = some (.int .i64 (pt l m).y) := fun n => ((BC.out n).cell (p := ⟨b, o + m * 2 + 1, none⟩) hbl).trans (HCC.out m hm1).2
      have CC := fun W => ron_any (pt l k) (pt l m) p W (pt_ok HV.out.1 hlt) (pt_ok HV.out.1 hm1) HV.out.2
      obtain ⟨z, hz⟩ : ∃ z, onR (pt l k) (pt l m) p = z := ⟨_, rfl⟩
      rw [hz] at CC
      have HN : Hid ((upto (fun j => (j, eg l j)) (k + 1)).any (orB p) = z) := by
        unfold Hid; rw [upto_succ, List.any_append, HA.out, Bool.false_or, List.any_cons, List.any_nil, Bool.or_false, orB, eg, hm, hz]
      have D1 := cin HC CC
      have hw0 : IntKind.i64.wrap ((k : Int) + 1) = (k : Int) + 1 := (wrapEq _).trans (w64 (by omega))
      have hz1 : ¬ ((l.length : Int) = 0) := by omega
      have hz2 : ¬ (l.length = 0) := by omega
      have hz3 : ¬ (l = []) := fun h => by rw [h] at hlt; exact absurd hlt (by simp)
      have hz4 : (m : Int) < (l.length : Int) := by omega
      clear hm hz CC
      go_wp2_with fail
      refine wp_region_in C (HC.out _ _ (Wd.h _) (below_dr _)) (by kernel_rfl) (by kernel_rfl) ?_
      repeat (go_big_quiet_step (first | with_reducible exact (D1 _).out))
      refine wpQuiet_nil ?_
      intro wx hwx
      obtain ⟨n2, rfl⟩ : ∃ n : Wd C, wx = n.w := ⟨⟨wx, hwx⟩, rfl⟩
      clear hwx
      clear g1 g2 g3 g4 D1
      cases z
      · go_wp2_with fail
        go_roundw
        case rel => exact ⟨k + 1, n2, rfl, by simp, by omega, HN.out⟩
        case measure => simp [intOf]; omega
      · go_wp2_with fail
        go_ret
        refine ⟨ret_bool ?_, BC.out _⟩
        obtain ⟨tl, htl⟩ := upto_all (fun j => (j, eg l j)) (k + 1) l.length (by omega)
        rw [egs, ← htl, List.any_append, HN.out, Bool.true_or]
    · obtain rfl : k = l.length := by omega
      go_wp2_with fail
      go_ret
      exact ⟨ret_bool HA.out.symm, BC.out _⟩
theorem orB_oeB {l : List Pt} {p : Pt} (hv : l.all okP = true) (_hpv : okP p = true) : (egs l).any (orB p) = (egs l).any (oeB p) := by
  have key : ∀ k, k ≤ l.length → (upto (fun j => (j, eg l j)) k).any (orB p) = (upto (fun j => (j, eg l j)) k).any (oeB p) := by
    intro k hk
    induction k with
    | zero => rfl
    | succ k ih =>
      rw [upto_succ, List.any_append, List.any_append, ih (by omega)]
      congr 1
      simp only [List.any_cons, List.any_nil, Bool.or_false]
      rw [Bool.eq_iff_iff]
      unfold orB oeB
      have h1 : okP (eg l k).a = true := pt_ok hv (show k < l.length by omega)
      have h2 : okP (eg l k).b = true := pt_ok hv (Nat.mod_lt _ (by omega))
      rw [onR_on, Bool.or_eq_true, onS_iff, okG_iff]
      obtain ⟨s, hs⟩ : ∃ s, eg l k = s := ⟨_, rfl⟩
      rw [hs] at h1 h2
      simp only [hs]
      constructor
      · intro h
        by_cases e : s.a = s.b
        · left
          obtain ⟨_, hx, hy⟩ := h
          rw [← e] at hx hy
          refine decide_eq_true ?_
          obtain ⟨sa, sb⟩ := s
          obtain ⟨ax, ay⟩ := sa
          obtain ⟨px, py⟩ := p
          simp only at hx hy ⊢
          rw [Pt.mk.injEq]; omega
        · exact .inr ⟨⟨h1, h2, e⟩, h⟩
      · rintro (h | h)
        · have := of_decide_eq_true h
          rw [← this]
          exact ⟨ar_a _ _, by omega, by omega⟩
        · exact h.2
  exact key l.length (Nat.le_refl _)
theorem sg_pos {n : Int} : 0 < sg n ↔ 0 < n := by unfold sg; split <;> (try split) <;> omega
theorem sg_lt {n : Int} : sg n < 0 ↔ n < 0 := by unfold sg; split <;> (try split) <;> omega
set_option maxRecDepth 100000 in
set_option maxHeartbeats 4000000 in
theorem rwinding_any (q : Option Addr) (cap : Nat) (l : List Pt) (p : Pt) (w : World) (hl : l.length ≤ 1000) (h0 : 0 < l.length) (hv : l.all okP = true) (hpv : okP p = true) (hp : PtsAt w q l) :
    Calls Try.prog 98 #[.slice q l.length cap, p.v] w fun e w' => e = .returned (.int .i64 (wnr p (egs l))) ∧ Below w.heap.size w w' := by
  obtain ⟨b, o, rfl, hbl, hcc⟩ := pts_cells hp h0
  have HCC := Lib.hid hcc
  have HV := Lib.hid (And.intro hv hpv)
  clear hp hcc hv hpv
  go_enter Try.func98, Try.ntmps98
  go_wp2_with fail
  obtain ⟨W0, hW0⟩ : ∃ W0, (w).alloc (.cells #[.int .i64 p.x, .int .i64 p.y] 23) = W0 := ⟨_, rfl⟩
  have S0 : St w W0 [(w.heap.size, 0, .int .i64 p.x), (w.heap.size, 1, .int .i64 p.y)] := by rw [← hW0]; exact ((St.nil w)).box #[.int .i64 p.x, .int .i64 p.y] 23 (w.heap.size) (by simp)
  rw [hW0]
  clear hW0
  obtain ⟨C, hC0, HC, LC, BC, hne⟩ := cls S0
  haveI := hne
  obtain ⟨c0, rfl⟩ : ∃ n : Wd C, W0 = n.w := ⟨⟨_, hC0⟩, rfl⟩
  have fC0 : ∀ n : Wd C, n.w.cell? ⟨w.heap.size, 0, none⟩ = some (.int .i64 p.x) := fun n => (LC.out n).1.2.1
  have fC1 : ∀ n : Wd C, n.w.cell? ⟨w.heap.size, 1, none⟩ = some (.int .i64 p.y) := fun n => (LC.out n).2.1.2.1
  clear S0 hC0
  go_loopw [5, 6] (fun v i wr => ∃ (k : Nat), St w wr [(w.heap.size, 0, .int .i64 p.x), (w.heap.size, 1, .int .i64 p.y)] ∧ i = .int .i64 (k : Int) ∧ k ≤ l.length ∧ v = .int .i64 (wnr p (upto (fun j => (j, eg l j)) k))) (fun v i wr => l.length - (intOf i).toNat)
  case atStart => exact ⟨0, ⟨BC.out _, LC.out _⟩, rfl, Nat.zero_le _, rfl⟩
  case round =>
    obtain ⟨k, hS, rfl, hk, rfl⟩ := hrel
    clear fC0 fC1
    obtain ⟨E, hC0, HE, LE, BE, hne⟩ := cls hS
    haveI := hne
    obtain ⟨e0, rfl⟩ : ∃ n : Wd E, wr = n.w := ⟨⟨_, hC0⟩, rfl⟩
    have fE0 : ∀ n : Wd E, n.w.cell? ⟨w.heap.size, 0, none⟩ = some (.int .i64 p.x) := fun n => (LE.out n).1.2.1
    have fE1 : ∀ n : Wd E, n.w.cell? ⟨w.heap.size, 1, none⟩ = some (.int .i64 p.y) := fun n => (LE.out n).2.1.2.1
    clear hS hC0
    obtain ⟨n, hn⟩ : ∃ n, e0 = n := ⟨_, rfl⟩
    rw [hn]
    clear hn
    by_cases hlt : k < l.length
    · obtain ⟨m, hm⟩ : ∃ m : Nat, (k + 1) % l.length = m := ⟨_, rfl⟩
      have hm1 : m < l.length := by rw [← hm]; exact Nat.mod_lt _ (by omega)
      have hm2 : ((k : Int) + 1).tmod (l.length : Int) = (m : Int) := by rw [← hm, Int.tmod_eq_emod_of_nonneg (by omega)]; simp
      have g1 : n.w.cell? ⟨b, o + k * 2, none⟩ = some (.int .i64 (pt l k).x) := ((BE.out n).cell (p := ⟨b, o + k * 2, none⟩) hbl).trans (HCC.out k hlt).1
      have g2 : n.w.cell? ⟨b, o + k * 2 + 1, none⟩ = some (.int .i64 (pt l k).y) := ((BE.out n).cell (p := ⟨b, o + k * 2 + 1, none⟩) hbl).trans (HCC.out k hlt).2
      have g3 : n.w.cell? ⟨b, o + m * 2, none⟩ = some (.int .i64 (pt l m).x) := ((BE.out n).cell (p := ⟨b, o + m * 2, none⟩) hbl).trans (HCC.out m hm1).1
      have g4 : n.w.cell? ⟨b, o + m * 2 + 1, none⟩ = some (.int .i64 (pt l m).y) := ((BE.out n).cell (p := ⟨b, o + m * 2 + 1, none⟩) hbl).trans (HCC.out m hm1).2
      have CC := fun W => twice_any (pt l k) (pt l m) p W (pt_ok HV.out.1 hlt) (pt_ok HV.out.1 hm1) HV.out.2
      obtain ⟨A, hA⟩ : ∃ A, wnr p (upto (fun j => (j, eg l j)) k) = A := ⟨_, rfl⟩
      obtain ⟨t, ht⟩ : ∃ t, ar (pt l k) (pt l m) p = t := ⟨_, rfl⟩
      rw [ht] at CC
      have HN : Hid (wnr p (upto (fun j => (j, eg l j)) (k + 1)) = if (pt l k).y ≤ p.y ∧ p.y < (pt l m).y ∧ 0 < t then wrap64 (A + 1) else if p.y < (pt l k).y ∧ (pt l m).y ≤ p.y ∧ t < 0 then wrap64 (A - 1) else A) := by
        unfold Hid
        rw [upto_succ, wnr_snoc, hA, wnStep]
        have e : eg l k = ⟨pt l k, pt l m⟩ := by rw [eg, hm]
        simp only [e]
        rw [trn_ok (pt_ok HV.out.1 hlt) (pt_ok HV.out.1 hm1) HV.out.2, ht]
        simp only [sg_pos, sg_lt]
      rw [hA]
      obtain ⟨P, hP⟩ : ∃ P, pt l k = P := ⟨_, rfl⟩
      obtain ⟨Q, hQ⟩ : ∃ P, pt l m = P := ⟨_, rfl⟩
      rw [hP] at g1 g2 HN
      rw [hQ] at g3 g4 HN
      simp only [hP, hQ] at CC
      have hw0 : IntKind.i64.wrap ((k : Int) + 1) = (k : Int) + 1 := (wrapEq _).trans (w64 (by omega))
      have hz1 : ¬ ((l.length : Int) = 0) := by omega
      have hz2 : ¬ (l.length = 0) := by omega
      have hz3 : ¬ (l = []) := fun h => by rw [h] at hlt; exact absurd hlt (by simp)
      have hz4 : (m : Int) < (l.length : Int) := by omega
      clear hm hA ht hP hQ
      go_upto_region 7 with (fail)
      obtain ⟨W0, hW0⟩ : ∃ W0, ((n.w).alloc (.cells #[.int .i64 P.x, .int .i64 P.y] 23)).alloc (.cells #[.int .i64 Q.x, .int .i64 Q.y] 23) = W0 := ⟨_, rfl⟩
      have S0 : St w W0 [(n.w.heap.size + 1, 0, .int .i64 Q.x), (n.w.heap.size + 1, 1, .int .i64 Q.y), (n.w.heap.size, 0, .int .i64 P.x), (n.w.heap.size, 1, .int .i64 P.y), (w.heap.size, 0, .int .i64 p.x), (w.heap.size, 1, .int .i64 p.y)] := by rw [← hW0]; exact (((⟨BE.out n, LE.out n⟩ : St w n.w _)).box #[.int .i64 P.x, .int .i64 P.y] 23 (n.w.heap.size) (by simp)).box #[.int .i64 Q.x, .int .i64 Q.y] 23 (n.w.heap.size + 1) (by simp)
      rw [hW0]
      clear hW0
      obtain ⟨kD, hkk⟩ : ∃ k, n.w.heap.size = k := ⟨_, rfl⟩
      rw [hkk] at S0 ⊢
      clear hkk
      obtain ⟨D, hC0, HD, LD, BD, hne⟩ := cls S0
      haveI := hne
      obtain ⟨d0, rfl⟩ : ∃ n : Wd D, W0 = n.w := ⟨⟨_, hC0⟩, rfl⟩
      have fD0 : ∀ n : Wd D, n.w.cell? ⟨kD + 1, 0, none⟩ = some (.int .i64 Q.x) := fun n => (LD.out n).1.2.1
      have fD1 : ∀ n : Wd D, n.w.cell? ⟨kD + 1, 1, none⟩ = some (.int .i64 Q.y) := fun n => (LD.out n).2.1.2.1
      have fD2 : ∀ n : Wd D, n.w.cell? ⟨kD, 0, none⟩ = some (.int .i64 P.x) := fun n => (LD.out n).2.2.1.2.1
      have fD3 : ∀ n : Wd D, n.w.cell? ⟨kD, 1, none⟩ = some (.int .i64 P.y) := fun n => (LD.out n).2.2.2.1.2.1
      have fD4 : ∀ n : Wd D, n.w.cell? ⟨w.heap.size, 0, none⟩ = some (.int .i64 p.x) := fun n => (LD.out n).2.2.2.2.1.2.1
      have fD5 : ∀ n : Wd D, n.w.cell? ⟨w.heap.size, 1, none⟩ = some (.int .i64 p.y) := fun n => (LD.out n).2.2.2.2.2.1.2.1
      clear S0 hC0
      have D1 := cin HD CC
      clear g1 g2 g3 g4 CC
      go_wp2_with (first | (go_at_call 82; with_reducible refine (D1 _).out.mono ?_; rintro e w' ⟨rfl, n, rfl⟩))
      all_goals
        go_roundw
        case rel => exact ⟨k + 1, ⟨BD.out _, (LD.out _).2.2.2.2⟩, by simp, by omega, congrArg (Value.int .i64) (by rw [HN.out]; split <;> (try split) <;> (first | rfl | (exfalso; omega)))⟩
        case measure => simp [intOf]; omega
    · obtain rfl : k = l.length := by omega
      go_wp2_with fail
      go_ret
      exact ⟨rfl, BE.out _⟩
end Go.Proofs.Ytdefpcjlbganpaa
