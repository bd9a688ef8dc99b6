import Derived.Test.YtmfhpddeclggfaaGreatDoorVIfa
import Derived.Maps.Own
import Derived.Maps.OwnOps
import Derived.Maps.OwnSet
import Derived.Lib.SlKeysI
import Derived.RangeFuncNested
import Derived.RangeFuncBound
import Derived.RangeFuncCalls
import Derived.RangeFuncLeaves
import Derived.RangeFuncBox
import Derived.Shelf.Abstract
import Derived.Shelf.RegionOpen
import Derived.OwnWalkIn
import Derived.TacticsInMore
import Derived.LoopNIn
import Derived.LoopIn
import Derived.Maps.AppendAt
import Derived.Maps.OwnIn
import Derived.RegionIn
import Derived.BigRegionIn
import Derived.Stop.RegionWithIn
import Derived.WalkKit
import Derived.LoopTactic
import Derived.WalkSpells
import Derived.WalkLawsBesides
import Derived.Lib.Hide
import Derived.BigQuiet
import Derived.IntWalk
import Derived.Deep.DeepMust
import Derived.WalkSmall
import Derived.StillTailTactics
import Derived.Deep.RegionLaw
import Derived.Deep.QuietTactic
import Derived.Deep.Cut
import Derived.Deep.DeepCutAuto
import Derived.Deep.LoopGhost
import Derived.Laws.AppendOwn
import Derived.Deep.RegionHeld3
import Derived.Deep.AppendLies
import Derived.Test.YtmfhpddeclggfaaGreatDoorIfk
import Derived.Test.YtmfhpddeclggfaaGreatDoorVIfb
import Derived.Test.YtmfhpddeclggfaaGreatDoorVIg
namespace Go.Proofs.YtmfhpddeclggfaaGreatDoor
open Go.RowKit
/-! Gaps that grow. -/
def cellsS (gs : List (Int × Int)) : List Value := gs.flatMap fun x => [.int .i64 x.1, .int .i64 x.2]
/-- Gaps with one number more. -/
def exG (gs : List (Int × Int)) (n : Int) : List (Int × Int) := match gs.getLast? with
  | some x => if x.2 = n - 1 then gs.dropLast ++ [(x.1, n)] else gs ++ [(n, n)]
  | none => [(n, n)]
theorem cellsS_app (a b : List (Int × Int)) : cellsS (a ++ b) = cellsS a ++ cellsS b := by simp [cellsS]
theorem cellsS_len (l : List (Int × Int)) : (cellsS l).length = l.length * 2 := by
  induction l with
  | nil => rfl
  | cons x l ih => rw [List.length_cons, Nat.succ_mul, ← ih]; simp [cellsS]
theorem cellsS_last (l : List (Int × Int)) (x : Int × Int) : (cellsS (l ++ [x]))[l.length * 2 + 1]? = some (.int .i64 x.2) := by
  rw [cellsS_app, List.getElem?_append_right (by rw [cellsS_len]; omega), cellsS_len, show l.length * 2 + 1 - l.length * 2 = 1 from by omega]
  rfl
theorem cellsS_set (l : List (Int × Int)) (x : Int × Int) (n : Int) : (cellsS (l ++ [x])).set (l.length * 2 + 1) (.int .i64 n) = cellsS (l ++ [(x.1, n)]) := by
  rw [cellsS_app, List.set_append_right _ _ (by rw [cellsS_len]; omega), cellsS_len, show l.length * 2 + 1 - l.length * 2 = 1 from by omega, cellsS_app]
  rfl
theorem cellsS_one : ∀ {l : List (Int × Int)}, ∀ u ∈ cellsS l, u.oneCell' = true := fun u hu => by
  simp only [cellsS, List.mem_flatMap] at hu
  obtain ⟨x, -, hx⟩ := hu
  simp only [List.mem_cons, List.not_mem_nil, or_false] at hx
  rcases hx with rfl | rfl <;> rfl
theorem inf176 : (Tryz.prog.info? 176).map (fun i => (i.zero, i.size, i.bytes)) = some (some (.agg #[.int .i64 0, .int .i64 0]), 2, 16) := by kernel_rfl
theorem spn_new (W : World) (n : Int) : ∀ j u, (cellsS [(n, n)])[j]? = some u → (W.alloc (.cells #[.int .i64 n, .int .i64 n] 176)).cell? ((⟨W.heap.size, 0, none⟩ : Addr).add j) = some u := cells_new W #[.int .i64 n, .int .i64 n] 176
/-- What extend leaves. -/
def ExP (B : Nat) (w : World) (v : Value) (gs : List (Int × Int)) (e : Ending) (w' : World) : Prop :=
  ∃ v', e = .returned v' ∧ w'.ownsRow B 176 2 v' gs.length (cellsS gs) ∧ w.grownBy w' v.ownBlock ∧ (v'.ownBlock = v.ownBlock ∨ v'.ownBlock = some (w.heap.size + 1)) ∧ w.heap.size ≤ w'.heap.size
theorem exP_app {B : Nat} {w w2 : World} {v v' : Value} {gs : List (Int × Int)} {n : Int} (hown : w2.ownsRow B 176 2 v' (gs.length + 1) (cellsS gs ++ cellsS [(n, n)])) (hgr : (w.alloc (.cells #[.int .i64 n, .int .i64 n] 176)).grownBy w2 v.ownBlock) (hat : v'.ownBlock = v.ownBlock ∨ v'.ownBlock = some (w.alloc (.cells #[.int .i64 n, .int .i64 n] 176)).heap.size) :
    ExP B w v (gs ++ [(n, n)]) (.returned v') w2 := by
  have hs := hgr.size
  rw [World.size_alloc] at hat hs
  exact ⟨v', rfl, by rw [List.length_append, cellsS_app]; exact hown, ⟨hgr.os, hgr.tape, hgr.output, by omega, fun j hj hne => (hgr.block j (by rw [World.size_alloc]; omega) hne).trans (Below.heap_alloc w _ j hj)⟩, hat, by omega⟩
set_option maxRecDepth 100000 in
set_option maxHeartbeats 2000000 in
theorem extend_nil (v : Value) (n : Int) (B : Nat) (w : World) (hO : w.ownsRow B 176 2 v 0 []) (hB : B ≤ w.heap.size) :
    Calls Tryz.prog 142 #[v, .int .i64 n] w (ExP B w v [(n, n)]) := by
  have HO := Lib.hid hO
  obtain ⟨q, c, rfl⟩ := own_slice2 hO
  obtain ⟨i0, hi, hz0, hz1, hz2⟩ := info_parts inf176
  have HR := Lib.hid (fun w2 v' h1 h2 h3 => exP_app (B := B) (w := w) (w2 := w2) (v := .slice q 0 c) (v' := v') (gs := []) (n := n) h1 h2 h3)
  clear hO
  go_enter Tryz.func142, Tryz.ntmps142
  go_wp2_with (at_builtin; refine wpList_append_own_at _ rfl (.tmp 27) (.tmp 31) 76 rfl B 176 i0 (.agg #[.int .i64 0, .int .i64 0]) 2 16 Tryz.underlying76 hi hz0 hz1 hz2 rfl (by decide) (.slice q 0 c) 0 [] rfl (HO.out.alloc _) ⟨w.heap.size, 0, none⟩ 1 1 (cellsS [(n, n)]) rfl rfl (spn_new w n) cellsS_one (by decide) (by decide) (by rw [World.size_alloc]; omega) ?_; intro v' w2 hown hgrow _ hat; have HX := Lib.hid (HR.out w2 v' hown hgrow hat); clear hown hgrow hat)
  go_ret
  exact HX.out
set_option maxRecDepth 100000 in
set_option maxHeartbeats 2000000 in
theorem extend_some (v : Value) (gs : List (Int × Int)) (x : Int × Int) (n : Int) (B : Nat) (w : World) (hO : w.ownsRow B 176 2 v (gs.length + 1) (cellsS (gs ++ [x]))) (hl : gs.length ≤ 1000000) (hB : B ≤ w.heap.size) (h1 : 1 ≤ n) (h4 : n ≤ 400) :
    Calls Tryz.prog 142 #[v, .int .i64 n] w (ExP B w v (exG (gs ++ [x]) n)) := by
  obtain ⟨g, cap, rfl, hg1, hg2, hc⟩ := own_at hO (Nat.succ_pos _) (by rw [cellsS_len]; simp)
  have c1 := hc _ _ (cellsS_last gs x)
  have fz : w.frozen? ⟨g, gs.length * 2 + 1, none⟩ = false := hO.frozenAt _
  have HO := Lib.hid hO
  obtain ⟨i0, hi, hz0, hz1, hz2⟩ := info_parts inf176
  have hw0 : IntKind.i64.wrap (((gs.length : Int) + 1) - 1) = (gs.length : Int) := by rw [show ((gs.length : Int) + 1) - 1 = gs.length from by omega, IntKind.wrap_i64]; unfold wrap64 at *; omega
  have HX0 : Hid (exG (gs ++ [x]) n = if x.2 = n - 1 then gs ++ [(x.1, n)] else gs ++ [x] ++ [(n, n)]) := by unfold Hid exG; simp
  obtain ⟨x1, x2⟩ := x
  dsimp only at c1 HX0
  by_cases he : x2 = n - 1
  · subst he
    have HX : Hid (exG (gs ++ [(x1, n - 1)]) n = gs ++ [(x1, n)]) := by unfold Hid; rw [HX0.out, if_pos rfl]
    have hst := hO.stored (gs.length * 2 + 1) (.int .i64 n)
    rw [cellsS_set gs (x1, n - 1) n] at hst
    have HST := Lib.hid hst.1
    obtain ⟨m, hm⟩ : ∃ m, Hid (gs.length = m) := ⟨_, rfl⟩
    rw [hm.out] at c1 fz hl hw0 HST ⊢
    clear hc hst HX0 hO
    go_enter Tryz.func142, Tryz.ntmps142
    go_wp2_with fail
    rw [HX.out]
    go_ret
    have hst := HST.out
    exact ⟨_, rfl, by rw [List.length_append, hm.out]; exact hst, grownBy_setCellAt w g (m * 2 + 1) _, .inl rfl, by simp⟩
  · have HX : Hid (exG (gs ++ [(x1, x2)]) n = gs ++ [(x1, x2)] ++ [(n, n)]) := by unfold Hid; rw [HX0.out, if_neg he]
    have HR := Lib.hid (fun w2 v' h1 h2 h3 => exP_app (B := B) (w := w) (w2 := w2) (v := .slice (some ⟨g, 0, none⟩) (gs.length + 1) cap) (v' := v') (gs := gs ++ [(x1, x2)]) (n := n) (by rw [List.length_append]; exact h1) h2 h3)
    rw [← HX.out] at HR
    have he' : ¬ (x2 = n - 1) := he
    have HLm : Hid (gs.length + 1 + 1 ≤ maxLen) := by unfold Hid maxLen; omega
    have HLb : Hid ((gs.length + 1 + 1) * 16 ≤ 140737488355328) := by unfold Hid; omega
    obtain ⟨m, hm⟩ : ∃ m, Hid (gs.length = m) := ⟨_, rfl⟩
    rw [hm.out] at c1 fz hl hw0 HO HR HLm HLb ⊢
    clear hc HX0 hO he
    go_enter Tryz.func142, Tryz.ntmps142
    go_wp2_with (at_builtin; refine wpList_append_own_at _ rfl (.tmp 27) (.tmp 31) 76 rfl B 176 i0 (.agg #[.int .i64 0, .int .i64 0]) 2 16 Tryz.underlying76 hi hz0 hz1 hz2 rfl (by decide) (.slice (some ⟨g, 0, none⟩) (m + 1) cap) (m + 1) (cellsS (gs ++ [(x1, x2)])) rfl (HO.out.alloc _) ⟨w.heap.size, 0, none⟩ 1 1 (cellsS [(n, n)]) rfl rfl (spn_new w n) cellsS_one HLm.out HLb.out (by rw [World.size_alloc]; omega) ?_; intro v' w2 hown hgrow _ hat; have HY := Lib.hid (HR.out w2 v' hown hgrow hat); clear hown hgrow hat)
    go_ret
    exact HY.out
/-- extend. -/
theorem sExtend (v : Value) (gs : List (Int × Int)) (n : Int) (B : Nat) (w : World) (hO : w.ownsRow B 176 2 v gs.length (cellsS gs)) (hl : gs.length ≤ 1000000) (hB : B ≤ w.heap.size) (h1 : 1 ≤ n) (h4 : n ≤ 400) :
    Calls Tryz.prog 142 #[v, .int .i64 n] w (ExP B w v (exG gs n)) := by
  rcases List.eq_nil_or_concat gs with rfl | ⟨l, x, rfl⟩
  · exact extend_nil v n B w hO hB
  · rw [List.concat_eq_append] at hO hl ⊢
    rw [List.length_append] at hO hl
    exact extend_some v l x n B w hO (by simp at hl; omega) hB h1 h4
end Go.Proofs.YtmfhpddeclggfaaGreatDoor
