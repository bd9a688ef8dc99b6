import Derived.RangeFuncNested
import Derived.RangeFuncBox
import Derived.RangeFuncBound
import Derived.RangeFuncCalls
import Derived.RangeFuncLeaves
import Derived.Shelf.Abstract
import Derived.Shelf.RegionOpen
import Derived.BigRegionIn
import Derived.Stop.RegionWithIn
import Derived.WalkKit
import Derived.OwnWalkIn
import Derived.TacticsInMore
import Derived.LoopNIn
import Derived.LoopIn
import Derived.Lib.Hide
import Derived.IntWalk
import Derived.Deep.QuietTactic
import Derived.Deep.RegionHeld3
import Derived.Deep.RegionLaw
import Derived.StillTailTactics
import Derived.WalkSmall
import Derived.Deep.DeepMust
import Derived.BigQuiet
import Derived.WalkLawsBesides
import Derived.WalkSpells
import Derived.LoopTactic
import Derived.Test.YtdefpcjlbganpaaHU
import Derived.Test.YtdefpcjlbganpaaMEx
import Derived.Test.YtdefpcjlbganpaaRingsLaw
import Derived.Test.YtdefpcjlbganpaaHullLaw
import Derived.Test.YtdefpcjlbganpaaMSort
import Derived.Maps.AppendAt
import Derived.Lib.MinMax
import Derived.Test.YtdefpcjlbganpaaMBxs
import Derived.Test.YtdefpcjlbganpaaMCut
import Derived.Test.YtdefpcjlbganpaaHU
import Derived.Test.YtdefpcjlbganpaaMEx
import Derived.Maps.AppendAt
import Derived.Lib.MinMax
import Derived.Test.YtdefpcjlbganpaaMBxs
import Derived.Test.YtdefpcjlbganpaaMCut
import Derived.Test.YtdefpcjlbganpaaMDist
import Derived.Lib.SliceRun
import Derived.Lib.SlicesCompact
import Derived.Deep.LoopGhost
import Derived.Deep.DeepCutAuto
import Derived.Deep.CutBlock
namespace Go.Proofs.Ytdefpcjlbganpaa
open Go.RowKit Go.Shelf Go.BigFrame Go.Sort
attribute [local go_sem] Oper.semAt_some
attribute [local go_sem] World.cell?_alloc_some
/-- A list that begins with its second element; or in the opposite order. -/
def trnF (l : List Pt) (back : Bool) (i : Nat) : Pt := if back then pt l (l.length - 1 - i) else pt l ((i + 1) % l.length)
def trnd (l : List Pt) (back : Bool) : List Pt := upto (trnF l back) l.length
theorem trnd_len (l : List Pt) (back : Bool) : (trnd l back).length = l.length := upto_length _ _
set_option maxRecDepth 100000 in
set_option maxHeartbeats 8000000 in
theorem turned_any (q : Option Addr) (cap : Nat) (l : List Pt) (back : Bool) (w : World) (hl : l.length ≤ 1000) (hp : PtsAt w q l) :
    Calls Try.prog 68 #[.slice q l.length cap, .bool back] w fun e w' => ∃ v, e = .returned v ∧ PO w w.heap.size [] v (trnd l back) w' := by
  have HP := Lib.hid hp
  have HP0 := Lib.hid (PO.nil w)
  unfold trnd
  have HF : Hid (∀ i, trnF l back i = if back then pt l (l.length - 1 - i) else pt l ((i + 1) % l.length)) := fun i => rfl
  obtain ⟨f, hf⟩ : ∃ f, trnF l back = f := ⟨_, rfl⟩
  rw [hf] at HF ⊢
  clear hp hf
  go_enter Try.func68, Try.ntmps68
  go_wp2_with fail
  go_loopw [5, 6] (fun v i wr => ∃ (k : Nat), PO w w.heap.size [] v (upto f k) wr ∧ i = .int .i64 (k : Int) ∧ k ≤ l.length) (fun v i wr => l.length - (intOf i).toNat)
  case atStart => exact ⟨0, by simpa [upto] using HP0.out, rfl, Nat.zero_le _⟩
  case round =>
    obtain ⟨k, hPO, rfl, hk⟩ := hrel
    clear HP0
    by_cases hlt : k < l.length
    · rcases HP.out with hnil | ⟨b, o, rfl, hbl, hc⟩
      · rw [hnil] at hlt; simp at hlt
      · have HCC : Hid (∀ j, j < l.length → wr.cell? ⟨b, o + j * 2, none⟩ = some (.int .i64 (pt l j).x) ∧ wr.cell? ⟨b, o + j * 2 + 1, none⟩ = some (.int .i64 (pt l j).y)) := fun j hj => by
          have hq : l[j]? = some (pt l j) := by rw [List.getElem?_eq_getElem hj]; simp [pt, hj]
          obtain ⟨c1, c2⟩ := hc j _ hq
          exact ⟨(hPO.st.b.cell (p := ⟨b, o + j * 2, none⟩) hbl).trans c1, (hPO.st.b.cell (p := ⟨b, o + j * 2 + 1, none⟩) hbl).trans c2⟩
        have hul : (upto f k).length ≤ 1000000 := by rw [upto_length]; omega
        have HUL := Lib.hid hul
        have HPO := Lib.hid hPO
        have HUS : Hid (upto f (k + 1) = upto f k ++ [f k]) := upto_succ f k
        clear hc hul hPO
        cases back
        · obtain ⟨m, hm⟩ : ∃ m : Nat, (k + 1) % l.length = m := ⟨_, rfl⟩
          have hm1 : m < l.length := by rw [← hm]; exact Nat.mod_lt _ (by omega)
          have hm2 : ((k : Int) + 1).tmod (l.length : Int) = (m : Int) := by rw [← hm, Int.tmod_eq_emod_of_nonneg (by omega)]; simp
          have HFk : Hid (f k = pt l m) := by unfold Hid; rw [HF.out, hm]; rfl
          have hw0 : IntKind.i64.wrap ((k : Int) + 1) = (k : Int) + 1 := (wrapEq _).trans (w64 (by omega))
          have hz1 : ¬ ((l.length : Int) = 0) := by omega
          have hz2 : ¬ (l.length = 0) := by omega
          have hz3 : ¬ (l = []) := fun h => by rw [h] at hlt; exact absurd hlt (by simp)
          have hz4 : (m : Int) < (l.length : Int) := by omega
          obtain ⟨g1, g2⟩ := HCC.out m hm1
          obtain ⟨p, hpp⟩ : ∃ p, pt l m = p := ⟨_, rfl⟩
          rw [hpp] at g1 g2 HFk
          clear hm hpp
          go_wp2_with (at_builtin; refine app1 HPO.out p HUL.out rfl _ _ rfl rfl rfl ?_; intro v' w' hPO)
          go_roundw
          case rel => exact ⟨k + 1, by rw [HUS.out, HFk.out]; exact hPO, by simp, by omega⟩
          case measure => simp [intOf]; omega
        · obtain ⟨m, hm⟩ : ∃ m : Nat, l.length - 1 - k = m := ⟨_, rfl⟩
          have hm1 : m < l.length := by omega
          have HFk : Hid (f k = pt l m) := by unfold Hid; rw [HF.out, hm]; rfl
          have hw1 : IntKind.i64.wrap ((l.length : Int) - 1) = (l.length : Int) - 1 := (wrapEq _).trans (w64 (by omega))
          have hw2 : IntKind.i64.wrap ((l.length : Int) - 1 - (k : Int)) = (m : Int) := (wrapEq _).trans ((w64 (by omega)).trans (by omega))
          have hz4 : (m : Int) < (l.length : Int) := by omega
          obtain ⟨g1, g2⟩ := HCC.out m hm1
          obtain ⟨p, hpp⟩ : ∃ p, pt l m = p := ⟨_, rfl⟩
          rw [hpp] at g1 g2 HFk
          clear hm hpp
          go_wp2_with (at_builtin; refine app1 HPO.out p HUL.out rfl _ _ rfl rfl rfl ?_; intro v' w' hPO)
          go_roundw
          case rel => exact ⟨k + 1, by rw [HUS.out, HFk.out]; exact hPO, by simp, by omega⟩
          case measure => simp [intOf]; omega
    · obtain rfl : k = l.length := by omega
      go_wp2_with fail
      go_ret
      exact ⟨_, rfl, hPO⟩
end Go.Proofs.Ytdefpcjlbganpaa
