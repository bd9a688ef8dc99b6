import Derived.Test.YtdefpcjlbganpaaLeft
import Derived.WalkKit
import Derived.LoopTactic
import Derived.WalkSpells
import Derived.WalkLawsBesides
import Derived.Lib.Hide
import Derived.BigQuiet
import Derived.IntWalk
import Derived.Deep.DeepMust
import Derived.WalkSmall
import Derived.StillTailTactics
import Derived.Deep.RegionLaw
import Derived.Deep.RegionHeld3
import Derived.Deep.QuietTactic
import Derived.Deep.DeepCutAuto
import Derived.Sort.Grow
import Derived.Laws.AppendOwn
import Derived.Deep.CutBlock
namespace Go.Proofs.Ytdefpcjlbganpaa
open Go.RowKit Go.BigFrame Go.Sort
attribute [local go_sem] World.cell?_alloc_some
set_option maxRecDepth 100000 in
set_option maxHeartbeats 4000000 in
theorem compact_distinct (q : Option Addr) (cap : Nat) (l : List Pt) (w : World) (hl : l.length ≤ 1000) (hd : ∀ (k : Nat) (x y : Pt), l[k]? = some x → l[k + 1]? = some y → x ≠ y) (hp : PtsAt w q l) :
    Calls Try.prog 107 #[.slice q l.length cap] w fun e w' => e = .returned (.slice q l.length cap) ∧ Below w.heap.size w w' := by
  have HP := Lib.hid hp
  have HD := Lib.hid hd
  clear hp hd
  have S : St w w [] := ⟨Below.refl _ _, trivial⟩
  obtain ⟨C, hC0, HC, LC, BC, hne⟩ := cls S
  haveI := hne
  obtain ⟨c0, hc0⟩ : ∃ n : Wd C, w = n.w := ⟨⟨_, hC0⟩, rfl⟩
  have HC0 := Lib.hid hc0
  clear S hC0 hc0
  by_cases h2 : l.length < 2
  · go_enter Try.func107, Try.ntmps107
    go_wp2_with fail
    go_ret
    exact ⟨rfl, Below.refl _ _⟩
  · go_enter Try.func107, Try.ntmps107
    go_wp2_with fail
    go_loopw [3] (fun i wr => ∃ (k : Nat) (n : Wd C), wr = n.w ∧ i = .int .i64 (k : Int) ∧ 1 ≤ k ∧ k ≤ l.length) (fun i wr => l.length - (intOf i).toNat)
    case atStart => exact ⟨1, c0, HC0.out, rfl, by omega, by omega⟩
    case round =>
      obtain ⟨k, n, rfl, rfl, hk1, hk⟩ := hrel
      by_cases hlt : k < l.length
      · obtain ⟨m, rfl⟩ : ∃ m, k = m + 1 := ⟨k - 1, by omega⟩
        obtain ⟨x, hx⟩ : ∃ p, l[m]? = some p := ⟨_, List.getElem?_eq_getElem (by omega)⟩
        obtain ⟨y, hy⟩ : ∃ p, l[m + 1]? = some p := ⟨_, List.getElem?_eq_getElem hlt⟩
        rcases HP.out with hnil | ⟨b, o, rfl, hbl, hc⟩
        · rw [hnil] at hlt; simp at hlt
        · have HXY : Hid (x ≠ y) := HD.out m x y hx hy
          have u := hc _ _ hx
          have v := hc _ _ hy
          have g1 : ∀ n : Wd C, n.w.cell? ⟨b, o + m * 2, none⟩ = some (.int .i64 x.x) := fun n => ((BC.out n).cell (p := ⟨b, o + m * 2, none⟩) hbl).trans u.1
          have g2 : ∀ n : Wd C, n.w.cell? ⟨b, o + m * 2 + 1, none⟩ = some (.int .i64 x.y) := fun n => ((BC.out n).cell (p := ⟨b, o + m * 2 + 1, none⟩) hbl).trans u.2
          have g3 : ∀ n : Wd C, n.w.cell? ⟨b, o + (m + 1) * 2, none⟩ = some (.int .i64 y.x) := fun n => ((BC.out n).cell (p := ⟨b, o + (m + 1) * 2, none⟩) hbl).trans v.1
          have g4 : ∀ n : Wd C, n.w.cell? ⟨b, o + (m + 1) * 2 + 1, none⟩ = some (.int .i64 y.y) := fun n => ((BC.out n).cell (p := ⟨b, o + (m + 1) * 2 + 1, none⟩) hbl).trans v.2
          have ke := fun W => eqP_run y x W
          have hz : ptE y x = false := by unfold ptE; exact decide_eq_false (fun e => HXY.out e.symm)
          rw [hz] at ke
          have hw1 : IntKind.i64.wrap ((m : Int) + 1 - 1) = (m : Int) := (wrapEq _).trans ((w64 (by omega)).trans (by omega))
          have hw2 : ((m : Int) + 1).toNat = m + 1 := by omega
          clear u v hx hy hc hz
          go_wp2_with fail
          refine wp_region_in C (HC.out _ _ (Wd.h _) (below_dr _)) (by kernel_rfl) (by kernel_rfl) ?_
          repeat (go_big_quiet_step (first | fail))
          refine wpQuiet_nil ?_
          intro wx hwx
          obtain ⟨n2, rfl⟩ : ∃ n : Wd C, wx = n.w := ⟨⟨wx, hwx⟩, rfl⟩
          clear hwx
          go_wp2_with fail
          go_roundw
          case rel => exact ⟨m + 1 + 1, n2, rfl, by simp, by omega, by omega⟩
          case measure => simp [intOf]; omega
      · obtain rfl : k = l.length := by omega
        go_wp2_with fail
        go_ret
        exact ⟨rfl, BC.out _⟩
end Go.Proofs.Ytdefpcjlbganpaa
