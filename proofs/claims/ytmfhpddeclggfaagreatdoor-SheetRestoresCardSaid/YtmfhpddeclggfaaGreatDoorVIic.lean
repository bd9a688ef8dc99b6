import Derived.Test.YtmfhpddeclggfaaGreatDoorVIfa
import Derived.Maps.Own
import Derived.Maps.OwnOps
import Derived.Maps.OwnSet
import Derived.Lib.SlKeysI
import Derived.RangeFuncNested
import Derived.RangeFuncBound
import Derived.RangeFuncCalls
import Derived.RangeFuncLeaves
import Derived.RangeFuncBox
import Derived.Shelf.Abstract
import Derived.Shelf.RegionOpen
import Derived.OwnWalkIn
import Derived.TacticsInMore
import Derived.LoopNIn
import Derived.LoopIn
import Derived.Maps.AppendAt
import Derived.Maps.OwnIn
import Derived.RegionIn
import Derived.BigRegionIn
import Derived.Stop.RegionWithIn
import Derived.WalkKit
import Derived.LoopTactic
import Derived.WalkSpells
import Derived.WalkLawsBesides
import Derived.Lib.Hide
import Derived.BigQuiet
import Derived.IntWalk
import Derived.Deep.DeepMust
import Derived.WalkSmall
import Derived.StillTailTactics
import Derived.Deep.RegionLaw
import Derived.Deep.QuietTactic
import Derived.Deep.Cut
import Derived.Deep.DeepCutAuto
import Derived.Deep.LoopGhost
import Derived.Laws.AppendOwn
import Derived.Deep.RegionHeld3
import Derived.Deep.AppendLies
import Derived.Test.YtmfhpddeclggfaaGreatDoorIfk
import Derived.Test.YtmfhpddeclggfaaGreatDoorVIfb
import Derived.Test.YtmfhpddeclggfaaGreatDoorVIg
import Derived.Test.YtmfhpddeclggfaaGreatDoorVIh
import Derived.Test.YtmfhpddeclggfaaGreatDoorVIia
import Derived.Test.YtmfhpddeclggfaaGreatDoorVIib
import Derived.Test.YtmfhpddeclggfaaGreatDoorKf
namespace Go.Proofs.YtmfhpddeclggfaaGreatDoor
open Go.RowKit
/-! Collate, in general. -/
theorem spk_range {l : List UInt8} {n : Int} (h : spk l = some n) : 1 ≤ n ∧ n ≤ 400 := by
  unfold spk spkv at h
  split at h
  · rename_i hc
    cases h
    exact hc.2.2
  · cases h
theorem sc1_some {p : ByteArray} {s : Sc} (h : sc1 p = some s) : spk p.data.toList = some s.n ∧ s.t = p ∧ s.b = decide (readErr p = 0) := by
  unfold sc1 at h
  split at h
  · rename_i n hn
    cases h
    refine ⟨hn, rfl, ?_⟩
    first | rfl | simp
  · cases h
theorem scL_mem {s : ByteArray} {x : Sc} (h : x ∈ scL s) : (1 ≤ x.n ∧ x.n ≤ 400) ∧ x.t.size ≤ s.size := by
  unfold scL at h
  obtain ⟨p, hp, hx⟩ := List.mem_filterMap.1 h
  obtain ⟨h1, h2, -⟩ := sc1_some hx
  exact ⟨spk_range h1, by rw [h2]; exact partsN_size hp⟩
theorem scL_len (s : ByteArray) : (scL s).length ≤ s.size + 1 := by
  unfold scL partsN partsF
  refine Nat.le_trans (List.length_filterMap_le _ _) (Nat.le_trans (List.length_filter_le _ _) ?_)
  have h4 := Lib.splitB_length_le ⟨#[10]⟩ 0 s.size s
  omega
theorem scs_getD (cs : List ByteArray) (j : Nat) : (cs.map scL).getD j [] = if j < cs.length then scL (cs.getD j ByteArray.empty) else [] := by
  by_cases h : j < cs.length
  · rw [if_pos h, List.getD, List.getElem?_map, List.getElem?_eq_getElem h, List.getD, List.getElem?_eq_getElem h]; rfl
  · rw [if_neg h, List.getD, List.getElem?_eq_none (by rw [List.length_map]; omega)]; rfl
theorem shelf_of {w W : World} {cs : List ByteArray} (h : ShM w W cs cs.length) : ShelfAt W (some ⟨w.heap.size, 0, none⟩) (cs.map scL) := by
  refine .inr ⟨w.heap.size, rfl, h.lt, fun j hj => ?_⟩
  rw [List.length_map] at hj
  obtain ⟨p, c, h1, h2⟩ := h.new j hj
  rw [scs_getD, if_pos hj]
  exact ⟨p, c, h1, h2.base (Nat.zero_le _)⟩
/-- The book that copies make. -/
def coB (cs : List ByteArray) : BV := coD (layF (cs.map scL) cs.length) (layF (cs.map scL) cs.length).last
/-- What Collate leaves: a book and no error. -/
def ColP (W : World) (b : BV) (er : Int) (e : Ending) (w' : World) : Prop :=
  ∃ v, e = .returned (.tuple #[v, .int .i64 er]) ∧ BkP W b (.returned v) w'
set_option maxRecDepth 100000 in
set_option maxHeartbeats 1000000 in
theorem allScraps_many (p : Option Addr) (cap n : Nat) (w : World) (hn : 8 < (n : Int)) : Calls Tryz.prog 107 #[.slice p n cap] w fun e w' => e = .returned (.tuple #[.slice none 0 0, .int .i64 2]) ∧ w = w' := by
  go_enter Tryz.func107, Tryz.ntmps107
  go_wp2_with fail
  go_ret2
  exact ⟨rfl, rfl⟩
set_option maxRecDepth 100000 in
set_option maxHeartbeats 2000000 in
theorem collate_many (p : Option Addr) (cap n : Nat) (W : World) (hn : 8 < (n : Int)) : Calls Tryz.prog 53 #[.slice p n cap] W (ColP W ([], [], []) 2) := by
  have AM := Lib.hid (allScraps_many p cap n (W.alloc (.cells #[.slice none 0 0, .slice none 0 0, .slice none 0 0] 78)) hn)
  have r0 := nw_at W #[.slice none 0 0, .slice none 0 0, .slice none 0 0] 78 0 _ rfl
  have r1 := nw_at W #[.slice none 0 0, .slice none 0 0, .slice none 0 0] 78 1 _ rfl
  have r2 := nw_at W #[.slice none 0 0, .slice none 0 0, .slice none 0 0] 78 2 _ rfl
  have f0 := frozen_new W #[.slice none 0 0, .slice none 0 0, .slice none 0 0] 78 0
  have f1 := frozen_new W #[.slice none 0 0, .slice none 0 0, .slice none 0 0] 78 1
  have f2 := frozen_new W #[.slice none 0 0, .slice none 0 0, .slice none 0 0] 78 2
  have HB : Hid (Below W.heap.size W (W.alloc (.cells #[.slice none 0 0, .slice none 0 0, .slice none 0 0] 78))) := below_alloc1 _ _
  go_enter Tryz.func53, Tryz.ntmps53
  go_wp2_with fail
  refine AM.out.mono ?_
  rintro e w' ⟨rfl, rfl⟩
  clear AM
  go_wp2_with fail
  refine bodyPost_ret (v := .tuple #[.agg #[.slice none 0 0, .slice none 0 0, .slice none 0 0], .int .i64 2]) (by simp [results, Tryz.results53, go_sem, r0, r1, r2]) rfl ?_
  exact ⟨_, rfl, _, _, _, [], [], rfl, World.ownsRow_nil _ _ _ _, World.ownsRow_nil _ _ _ _, World.ownsRow_nil _ _ _ _, fun f hf => by (rcases hf with h | h <;> cases h), rfl, rfl, HB.out⟩
set_option maxRecDepth 100000 in
set_option maxHeartbeats 2000000 in
theorem collate_few (p : Option Addr) (cap : Nat) (cs : List ByteArray) (W : World) (hn : cs.length ≤ 8) (hs : ∀ j, (cs.getD j ByteArray.empty).size ≤ 99999) (hp : StrsAt W p cs) (he : Env W) : Calls Tryz.prog 53 #[.slice p cs.length cap] W (ColP W (coB cs) 0) := by
  have HE := Lib.hid he
  have AS := Lib.hid (allScraps0 p cap cs (W.alloc (.cells #[.slice none 0 0, .slice none 0 0, .slice none 0 0] 78)) hn (fun j => Nat.le_trans (hs j) (by decide)) (hp.below (below_alloc1 _ _)) (he.next (below_alloc1 _ _)))
  have hg : ∀ j, ∀ s ∈ (cs.map scL).getD j [], (1 ≤ s.n ∧ s.n ≤ 400) ∧ s.t.size ≤ 99999 := fun j s h => by
    rw [scs_getD] at h
    split at h
    · obtain ⟨g1, g2⟩ := scL_mem h
      exact ⟨g1, Nat.le_trans g2 (hs j)⟩
    · cases h
  have hc : ∀ j, ((cs.map scL).getD j []).length ≤ 100000 := fun j => by
    rw [scs_getD]
    split
    · have := scL_len (cs.getD j ByteArray.empty); have := hs j; omega
    · exact Nat.zero_le _
  have HCO := Lib.hid (fun (q : Option Addr) (c : Nat) (V : World) (h1 : ShelfAt V q (cs.map scL)) (h2 : Env V) => sCollate q c (cs.map scL) V (by rw [List.length_map]; exact hn) (fun j s h => (hg j s h).1) hc (fun j s h => Nat.le_trans (hg j s h).2 (by decide)) h1 h2)
  rw [List.length_map] at HCO
  have r0 : ∀ w', Below (W.alloc (.cells #[.slice none 0 0, .slice none 0 0, .slice none 0 0] 78)).heap.size (W.alloc (.cells #[.slice none 0 0, .slice none 0 0, .slice none 0 0] 78)) w' → w'.cell? ⟨W.heap.size, 0, none⟩ = some (.slice none 0 0) ∧ w'.cell? ⟨W.heap.size, 1, none⟩ = some (.slice none 0 0) ∧ w'.cell? ⟨W.heap.size, 2, none⟩ = some (.slice none 0 0) ∧ ∀ o, w'.frozen? ⟨W.heap.size, o, none⟩ = false := fun w' hb =>
    ⟨(hb.cell (p := ⟨W.heap.size, 0, none⟩) (by simp)).trans (nw_at W _ 78 0 _ rfl), (hb.cell (p := ⟨W.heap.size, 1, none⟩) (by simp)).trans (nw_at W _ 78 1 _ rfl), (hb.cell (p := ⟨W.heap.size, 2, none⟩) (by simp)).trans (nw_at W _ 78 2 _ rfl), fun o => (hb.frozen (p := ⟨W.heap.size, o, none⟩) (by simp)).trans (frozen_new W _ _ o)⟩
  have HR0 := Lib.hid r0
  have HRN : Hid (∀ w', Below (W.alloc (.cells #[.slice none 0 0, .slice none 0 0, .slice none 0 0] 78)).heap.size (W.alloc (.cells #[.slice none 0 0, .slice none 0 0, .slice none 0 0] 78)) w' → ∀ o v, w'.cell? ⟨W.heap.size, o, none⟩ = some v → v = .slice none 0 0) := fun w' hb o v h => three_only W 78 o v ((hb.cell (p := ⟨W.heap.size, o, none⟩) (by simp)).symm.trans h)
  have HB1 : Hid (Below W.heap.size W (W.alloc (.cells #[.slice none 0 0, .slice none 0 0, .slice none 0 0] 78))) := below_alloc1 _ _
  have HCB : Hid (coB cs = coD (layF (cs.map scL) cs.length) (layF (cs.map scL) cs.length).last) := rfl
  obtain ⟨b, hb0⟩ : ∃ b, coD (layF (cs.map scL) cs.length) (layF (cs.map scL) cs.length).last = b := ⟨_, rfl⟩
  rw [hb0] at HCO HCB
  rw [HCB.out]
  obtain ⟨N, hN⟩ : ∃ N, Hid (cs.length = N) := ⟨_, rfl⟩
  obtain ⟨W1, hW1⟩ : ∃ W1, Hid (W.alloc (.cells #[.slice none 0 0, .slice none 0 0, .slice none 0 0] 78) = W1) := ⟨_, rfl⟩
  have HW1 : Hid (W1.heap.size = W.heap.size + 1) := by rw [← hW1.out]; unfold Hid; simp
  rw [hW1.out] at AS HR0 HRN HB1
  unfold ShelfP at AS
  clear r0 hp he hg hc hb0 hs
  go_enter Tryz.func53, Tryz.ntmps53
  go_wp2_with fail
  rw [hW1.out]
  refine AS.out.mono ?_
  rintro e W2 ⟨rfl, hsh⟩
  have SH := Lib.hid (shelf_of hsh)
  have HB2 := Lib.hid hsh.bel
  have CO := Lib.hid (HCO.out _ cs.length W2 SH.out (HE.out.next (HB1.out.trans (HB2.out.mono HB1.out.size))))
  clear hsh AS SH
  go_wp2_with fail
  refine CO.out.mono ?_
  rintro e w3 ⟨vl, vc, vg, ls, csb, rfl, ol, oc, og, hok, e1, e2, hb3⟩
  have hW2 : Below W1.heap.size W1 w3 := HB2.out.trans (hb3.mono HB2.out.size)
  obtain ⟨r0, r1, r2, rf⟩ := HR0.out w3 hW2
  have f0 := rf 0
  have f1 := rf 1
  have f2 := rf 2
  obtain ⟨p0, k0, rfl⟩ := own_slice2 ol
  obtain ⟨p1, k1, rfl⟩ := own_slice2 oc
  obtain ⟨p2, k2, rfl⟩ := own_slice2 og
  have HO0 := Lib.hid ol
  have HO1 := Lib.hid oc
  have HO2 := Lib.hid og
  have HBF : Hid (Below W.heap.size W w3) := HB1.out.trans (hW2.mono HB1.out.size)
  have HOF := Lib.hid (HRN.out w3 hW2)
  have HWW : Hid (W.heap.size < W2.heap.size) := by have := HW1.out; have := HB2.out.size; unfold Hid; omega
  have HOKF := Lib.hid hok
  have HE1 := Lib.hid e1
  have HE2 := Lib.hid e2
  clear ol oc og hok e1 e2 rf hW2 hb3 CO
  go_wp2_with fail
  refine bodyPost_ret (v := .tuple #[.agg #[.slice p0 ls.length k0, .slice p1 csb.length k1, .slice p2 b.2.2.length k2], .int .i64 0]) (by simp [results, Tryz.results53, go_sem, r0, r1, r2]) rfl ?_
  have hww := HWW.out
  have gk : ∀ {e : TypeId} {k n : Nat} {v : Value} {xs : List Value}, w3.ownsRow W2.heap.size e k v n xs → ∀ v0 v1 v2, (((w3.setCell ⟨W.heap.size, 0, none⟩ v0).setCell ⟨W.heap.size, 1, none⟩ v1).setCell ⟨W.heap.size, 2, none⟩ v2).ownsRow W.heap.size e k v n xs := fun h v0 v1 v2 =>
    ownsRow_base (row_grown (row_grown (row_grown h (grownBy_setCellAt w3 W.heap.size 0 v0) (fun r e => by have := Option.some.inj e; omega)) (grownBy_setCellAt _ W.heap.size 1 v1) (fun r e => by have := Option.some.inj e; omega)) (grownBy_setCellAt _ W.heap.size 2 v2) (fun r e => by have := Option.some.inj e; omega)) (by omega)
  refine ⟨_, rfl, _, _, _, ls, csb, rfl, gk HO0.out _ _ _, gk HO1.out _ _ _, gk HO2.out _ _ _, fun f hf => ?_, HE1.out, HE2.out, ((HBF.out.setCell (p := ⟨W.heap.size, 0, none⟩) (Nat.le_refl _) _).setCell (p := ⟨W.heap.size, 1, none⟩) (Nat.le_refl _) _).setCell (p := ⟨W.heap.size, 2, none⟩) (Nat.le_refl _) _⟩
  obtain ⟨h1, h2, h3⟩ := HOKF.out f hf
  have hne : ∀ ad : Addr, ad.block ≠ W.heap.size → ∀ (o i : Nat), (⟨W.heap.size, o, none⟩ : Addr) ≠ ⟨ad.block, i, none⟩ := fun ad h o i e => h (congrArg Addr.block e).symm
  refine ⟨h1.keep (by simp only [World.size_setCell]; exact Nat.le_refl _) ((strs_off h1 HOF.out).imp id (fun h ad e i => ?_)), h2.keep2 (by simp only [World.size_setCell]; exact Nat.le_refl _) ((ints_off h2 HOF.out).imp id (fun h ad e i => ?_)), h3⟩
  · have := h ad e
    rw [World.cell?_setCell_other _ _ _ _ (hne ad this _ _), World.cell?_setCell_other _ _ _ _ (hne ad this _ _), World.cell?_setCell_other _ _ _ _ (hne ad this _ _)]
  · have := h ad e
    rw [World.cell?_setCell_other _ _ _ _ (hne ad this _ _), World.cell?_setCell_other _ _ _ _ (hne ad this _ _), World.cell?_setCell_other _ _ _ _ (hne ad this _ _)]
end Go.Proofs.YtmfhpddeclggfaaGreatDoor
