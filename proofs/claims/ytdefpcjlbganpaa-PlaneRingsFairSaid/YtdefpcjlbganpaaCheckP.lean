import Derived.Test.YtdefpcjlbganpaaTurns
import Derived.WalkKit
import Derived.LoopTactic
import Derived.WalkSpells
import Derived.WalkLawsBesides
import Derived.Lib.Hide
import Derived.BigQuiet
import Derived.IntWalk
import Derived.Deep.DeepMust
import Derived.WalkSmall
import Derived.StillTailTactics
import Derived.Deep.RegionLaw
import Derived.Deep.RegionHeld3
import Derived.Deep.QuietTactic
namespace Go.Proofs.Ytdefpcjlbganpaa
open Go.RowKit
theorem below_al' (W : World) (o : Obj) : Below W.heap.size W (W.alloc o) := (Below.refl _ _).alloc (Nat.le_refl _) _
/-- The error of a list of points. -/
def ck (least : Nat) (l : List Pt) : Int := if l.length < least ∨ 200 < l.length then 2 else if l.all okP then 0 else 1
theorem ck_short {least l} (h : l.length < least ∨ 200 < l.length) : ck least l = 2 := by unfold ck; rw [if_pos h]
theorem ck_all {least l} (h : ¬ (l.length < least ∨ 200 < l.length)) (ha : l.all okP = true) : ck least l = 0 := by unfold ck; rw [if_neg h, if_pos ha]
theorem ck_not {least l} (h : ¬ (l.length < least ∨ 200 < l.length)) (ha : l.all okP = false) : ck least l = 1 := by unfold ck; rw [if_neg h, if_neg (by rw [ha]; simp)]
set_option maxHeartbeats 400000 in
theorem checkPoints_any (least : Nat) (p : Option Addr) (cap : Nat) (l : List Pt) (w : World) (hl : l.length ≤ 140737488355327) (hp : PtsAt w p l) :
   Calls Try.prog 102 #[.slice p l.length cap, .int .i64 (least : Int), .int .i64 200] w fun e w' => e = .returned (.int .i64 (ck least l)) ∧ Below w.heap.size w w' := by
  obtain ⟨c, hc⟩ : ∃ c, Hid (ck least l = c) := ⟨_, rfl⟩
  rw [hc.out]
  by_cases h1 : (l.length : Int) < (least : Int)
  · have hc1 : c = 2 := hc.out.symm.trans (ck_short (Or.inl (by omega)))
    subst hc1
    clear hc
    go_enter Try.func102, Try.ntmps102
    go_wp2_with fail
    go_ret
    exact ⟨rfl, Below.refl _ _⟩
  · by_cases h2 : (200 : Int) < (l.length : Int)
    · have hc1 : c = 2 := hc.out.symm.trans (ck_short (Or.inr (by omega)))
      subst hc1
      clear hc
      go_enter Try.func102, Try.ntmps102
      go_wp2_with fail
      go_ret
      exact ⟨rfl, Below.refl _ _⟩
    · go_enter Try.func102, Try.ntmps102
      go_wp2_with fail
      go_loopw [21] (fun i wr => ∃ k : Nat, k ≤ l.length ∧ i = .int .i64 (k : Int) ∧ (l.take k).all okP = true ∧ Below w.heap.size w wr ∧ PtsAt wr p l) (fun i wr => l.length - (intOf i).toNat)
      case atStart => exact ⟨0, Nat.zero_le _, rfl, by simp, Below.refl _ _, hp⟩
      case round =>
        obtain ⟨k, hk, rfl, ht, hb, hw⟩ := hrel
        have hht := Lib.hid ht
        have hhb := Lib.hid hb
        have hhw := Lib.hid hw
        clear ht hb
        by_cases hlt : k < l.length
        · obtain ⟨q, hq0⟩ : ∃ q, l[k]? = some q := ⟨_, List.getElem?_eq_getElem hlt⟩
          rcases hw with rfl | ⟨b, o, rfl, hbl, hcc⟩
          · simp at hlt
          · obtain ⟨c1, c2⟩ := hcc k q hq0
            have hq := Lib.hid hq0
            clear hq0 hcc hp
            go_wp2_with fail
            refine (Valid_any q _).mono ?_
            rintro e w1 ⟨rfl, hb1⟩
            have hhb1 : Hid (Below wr.heap.size wr w1) := (below_al' wr _).trans (hb1.mono (by simp))
            clear hb1
            cases hv : okP q with
            | true =>
              go_wp2_with fail
              go_roundw
              case rel => exact ⟨k + 1, by omega, rfl, all_take_succ _ _ _ _ hq.out hht.out hv, hhb.out.trans (hhb1.out.mono hhb.out.size), hhw.out.keep hhb1.out⟩
              case measure => simp [intOf]; omega
            | false =>
              go_wp2_with fail
              go_ret
              exact ⟨ret_int (by rw [← hc.out]; exact (ck_not (by omega) (all_false _ _ _ _ hq.out hv)).symm), hhb.out.trans (hhb1.out.mono hhb.out.size)⟩
        · go_wp2_with fail
          go_ret
          exact ⟨ret_int (by rw [← hc.out]; exact (ck_all (by omega) (all_take _ _ _ hlt hht.out)).symm), hhb.out⟩
set_option maxHeartbeats 400000 in
theorem checkPolygon_any (p : Option Addr) (cap : Nat) (l : List Pt) (w : World) (hl : l.length ≤ 140737488355327) (hp : PtsAt w p l) :
   Calls Try.prog 90 #[.slice p l.length cap] w fun e w' => e = .returned (.int .i64 (ck 3 l)) ∧ Below w.heap.size w w' := by
  have C := fun W h => Lib.hid (checkPoints_any 3 p cap l W hl h)
  go_enter Try.func90, Try.ntmps90
  go_wp2_with fail
  refine (C _ hp).out.mono ?_
  rintro e w1 ⟨rfl, hb1⟩
  go_wp2_with fail
  go_ret
  exact ⟨rfl, hb1⟩
end Go.Proofs.Ytdefpcjlbganpaa
