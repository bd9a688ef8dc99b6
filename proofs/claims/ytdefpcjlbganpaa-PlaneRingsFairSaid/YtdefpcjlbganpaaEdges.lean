import Derived.RangeFuncNested
import Derived.RangeFuncBox
import Derived.RangeFuncBound
import Derived.RangeFuncCalls
import Derived.RangeFuncLeaves
import Derived.Shelf.Abstract
import Derived.Shelf.RegionOpen
import Derived.BigRegionIn
import Derived.Stop.RegionWithIn
import Derived.WalkKit
import Derived.OwnWalkIn
import Derived.TacticsInMore
import Derived.LoopNIn
import Derived.LoopIn
import Derived.Lib.Hide
import Derived.IntWalk
import Derived.Test.YtdefpcjlbganpaaOn
namespace Go.Proofs.Ytdefpcjlbganpaa
open Go.RowKit Go.Shelf
attribute [local go_sem] Oper.semAt_some
theorem grown_drew (w : World) (row : Option Nat) : w.grownBy w.drew row := ⟨rfl, rfl, rfl, Nat.le_refl _, fun _ _ _ => rfl⟩
theorem AbidesFrom.al {β : Type} {B : Nat} {J : β → World → Prop} (h : AbidesFrom B J) {s : β} {W : World} (hs : J s W) (o : Obj) : J s (W.alloc o) := h s W _ none hs (World.grownBy_alloc W o none) (fun r e => by cases e)
theorem AbidesFrom.dr {β : Type} {B : Nat} {J : β → World → Prop} (h : AbidesFrom B J) {s : β} {W : World} (hs : J s W) : J s W.drew := h s W _ none hs (grown_drew W none) (fun r e => by cases e)
theorem wrapEq (x : Int) : IntKind.i64.wrap x = wrap64 x := by rw [IntKind.wrap_i64]; unfold wrap64; first | rfl | omega
/-- A corner, an edge. -/
def pt (l : List Pt) (j : Nat) : Pt := l.getD j ⟨0, 0⟩
def eg (l : List Pt) (k : Nat) : Sg := ⟨pt l k, pt l ((k + 1) % l.length)⟩
def upto {α : Type} (f : Nat → α) (k : Nat) : List α := (List.range k).map f
theorem upto_succ {α : Type} (f : Nat → α) (k : Nat) : upto f (k + 1) = upto f k ++ [f k] := by simp [upto, List.range_succ]
theorem upto_length {α : Type} (f : Nat → α) (k : Nat) : (upto f k).length = k := by simp [upto]
/-- What a round keeps: what lies below n, and the slice's box. -/
def KpE (n Bs : Nat) (W W' : World) : Prop := Below n W W' ∧ ∀ v, W.cell? ⟨Bs, 0, none⟩ = some v → W'.cell? ⟨Bs, 0, none⟩ = some v
theorem KpE.trans {n Bs : Nat} {A B C : World} (h : KpE n Bs A B) (k : KpE n Bs B C) : KpE n Bs A C := ⟨h.1.trans k.1, fun v e => k.2 v (h.2 v e)⟩
abbrev edgA (x : Nat × Sg) : Array Value := #[.int .i64 (x.1 : Int), .agg #[.int .i64 x.2.a.x, .int .i64 x.2.a.y, .int .i64 x.2.b.x, .int .i64 x.2.b.y]]
set_option maxRecDepth 100000 in
set_option maxHeartbeats 2000000 in
theorem edges1_in (F : Fence) (n : Nat) (h136 : F.fn 136) (hro : F.round = none) (hn : 1 ≤ n) (l Bs n₀ b off cap : Nat) (ls : List Pt) (hlen : ls.length ≤ 1000) (hb : b < n₀) (J Jx : List (Nat × Sg) → World → Prop) (W : World)
    (hJ : AbidesFrom W.heap.size J) (hn0 : n₀ ≤ W.heap.size)
    (hY : ∀ pre x W, J pre W → pre.length < ls.length → YieldAt F (n - 1) Try.prog l (edgA x) W fun e W' =>
      (e = .returned (.bool true) ∧ J (pre ++ [x]) W' ∧ KpE n₀ Bs W W') ∨ (e = .returned (.bool false) ∧ Jx (pre ++ [x]) W'))
    (hBs : W.cell? ⟨Bs, 0, none⟩ = some (.slice (some ⟨b, off, none⟩) ls.length cap)) (hc : ∀ j, j < ls.length → W.cell? ⟨b, off + j * 2, none⟩ = some (.int .i64 (pt ls j).x) ∧ W.cell? ⟨b, off + j * 2 + 1, none⟩ = some (.int .i64 (pt ls j).y)) (h0 : J [] W) :
    CallsIn F n Try.prog 136 #[.func (.yield l) #[] #[], .pointer (some ⟨Bs, 0, none⟩)] W fun e W' => (∃ v, e = .returned v) ∧
      ((∃ ys, ys = upto (fun j => (j, eg ls j)) ls.length ∧ J ys W') ∨ (∃ pre, (∃ k, k ≤ ls.length ∧ pre = upto (fun j => (j, eg ls j)) k) ∧ Jx pre W')) := by
  obtain ⟨Ff, Fd, Fa, Fr⟩ := F
  obtain rfl : Fr = none := hro
  refine callsIn_of_wp Try.func136 rfl h136 ?_ rfl
  simp only [Try.ntmps136, List.size_toArray, List.length_cons, List.length_nil, Nat.reduceAdd, Nat.reduceSub, Array.replicate_succ, Array.replicate_zero, List.push_toArray, List.append_toArray, List.nil_append, List.cons_append]
  gi_wp2
  gi_loopw [7] (fun i wr => ∃ k : Nat, k ≤ ls.length ∧ i = .int .i64 k ∧ J (upto (fun j => (j, eg ls j)) k) wr ∧ KpE n₀ Bs W wr ∧ Below n₀ W wr)
    (fun i _ => ls.length - (intOf i).toNat)
  case atStart => exact ⟨0, Nat.zero_le _, rfl, h0, ⟨Below.refl _ _, fun _ h => h⟩, Below.refl _ _⟩
  case round =>
    obtain ⟨k, hk, rfl, hJs, hKs, hnx⟩ := hrel
    have hHJ := Lib.hid hJ
    have hHY := Lib.hid hY
    have hHJs := Lib.hid hJs
    have hHK := Lib.hid hKs
    have hHx := Lib.hid hnx
    clear hJ hY hJs hKs hnx h0
    by_cases hlt : k < ls.length
    · have hcx : ∀ j, j < ls.length → wr.cell? ⟨b, off + j * 2, none⟩ = some (.int .i64 (pt ls j).x) ∧ wr.cell? ⟨b, off + j * 2 + 1, none⟩ = some (.int .i64 (pt ls j).y) := fun j h =>
        ⟨(hHx.out.cell (p := ⟨b, off + j * 2, none⟩) hb).trans (hc j h).1, (hHx.out.cell (p := ⟨b, off + j * 2 + 1, none⟩) hb).trans (hc j h).2⟩
      obtain ⟨c1, c2⟩ := hcx k hlt
      obtain ⟨c3, c4⟩ := hcx ((k + 1) % ls.length) (Nat.mod_lt _ (by omega))
      have hBs' := hHK.out.2 _ hBs
      have hn1 : n₀ ≤ wr.heap.size := Nat.le_trans hn0 hHx.out.size
      have hbw : b < wr.heap.size := Nat.lt_of_lt_of_le hb hn1
      have hBw : Bs < wr.heap.size := World.block_lt_of_cell? wr _ hBs'
      clear hcx hc hBs
      obtain ⟨m, hm⟩ : ∃ m : Nat, (k + 1) % ls.length = m := ⟨_, rfl⟩
      have hm1 : m < ls.length := by rw [← hm]; exact Nat.mod_lt _ (by omega)
      have hm2 : ((k : Int) + 1).tmod (ls.length : Int) = (m : Int) := by rw [← hm, Int.tmod_eq_emod_of_nonneg (by omega)]; simp
      have hE : Hid (eg ls k = ⟨pt ls k, pt ls m⟩) := by unfold Hid; rw [eg, hm]
      have hw0 : IntKind.i64.wrap ((k : Int) + 1) = (k : Int) + 1 := (wrapEq _).trans (w64 (by omega))
      have hz1 : ¬ ((ls.length : Int) = 0) := by omega
      have hz2 : ¬ (ls.length = 0) := by omega
      have hz3 : ¬ (ls = []) := fun h => by rw [h] at hlt; exact absurd hlt (by simp)
      have hz4 : (m : Int) < (ls.length : Int) := by omega
      rw [hm] at c3 c4
      clear hm
      gi_wp2
      obtain ⟨W1, hW1⟩ : ∃ W1, wr.alloc (Obj.cells #[Value.int IntKind.i64 (pt ls k).x, Value.int IntKind.i64 (pt ls k).y] 23) = W1 := ⟨_, rfl⟩
      have B1 : Below wr.heap.size wr W1 := hW1 ▸ (Below.refl _ _).alloc (Nat.le_refl _) _
      have d1 : W1.cell? ⟨wr.heap.size, 0, none⟩ = some (.int .i64 (pt ls k).x) := hW1 ▸ new_at wr _ 23 0 _ rfl
      have d2 : W1.cell? ⟨wr.heap.size, 1, none⟩ = some (.int .i64 (pt ls k).y) := hW1 ▸ new_at wr _ 23 1 _ rfl
      have c3' := (B1.cell (p := ⟨b, off + m * 2, none⟩) hbw).trans c3
      have c4' := (B1.cell (p := ⟨b, off + m * 2 + 1, none⟩) hbw).trans c4
      have hBs1 := (B1.cell (p := ⟨Bs, 0, none⟩) hBw).trans hBs'
      have hJ1 : J (upto (fun j => (j, eg ls j)) k) W1.drew := by rw [← hW1]; exact AbidesFrom.dr hHJ.out (AbidesFrom.al hHJ.out hHJs.out _)
      have hKp1 : Hid (KpE n₀ Bs wr W1.drew) := ⟨(B1.mono hn1).trans ((below_dr W1).mono (Nat.le_trans hn1 B1.size)), fun v h => ((below_dr W1).cell (p := ⟨Bs, 0, none⟩) (Nat.lt_of_lt_of_le hBw B1.size)).trans ((B1.cell (p := ⟨Bs, 0, none⟩) hBw).trans h)⟩
      rw [hW1]
      clear hW1 c1 c2 c3 c4 hBs'
      obtain ⟨fn, tmps, assign, body, hy, hR⟩ := hHY.out (upto (fun j => (j, eg ls j)) k) (k, eg ls k) W1.drew hJ1 (by rw [upto_length]; exact hlt)
      dsimp only [edgA] at hy
      rw [hE.out] at hy
      dsimp only at hy
      have hR2 := hR.mono (R' := fun e W' => ∃ bb : Bool, e = .returned (.bool bb) ∧ Hid ((bb = true ∧ J (upto (fun j => (j, eg ls j)) k ++ [(k, eg ls k)]) W' ∧ KpE n₀ Bs W1.drew W') ∨ (bb = false ∧ Jx (upto (fun j => (j, eg ls j)) k ++ [(k, eg ls k)]) W')))
        (fun e W' h => by
          rcases h with ⟨rfl, h1, h2⟩ | ⟨rfl, h1⟩
          · exact ⟨true, rfl, Or.inl ⟨rfl, h1, h2⟩⟩
          · exact ⟨false, rfl, Or.inr ⟨rfl, h1⟩⟩)
      clear hR
      gi_region_with (refine hR2.mono ?_; rintro e W2 ⟨bb, rfl, hbb⟩)
      all_goals
        clear hR2 hy d1 d2 c3' c4' hBs1
        cases bb
        · have hx : Jx (upto (fun j => (j, eg ls j)) k ++ [(k, eg ls k)]) W2 := by
            rcases hbb.out with ⟨h, _⟩ | ⟨_, h⟩
            · cases h
            · exact h
          have hHX := Lib.hid hx
          clear hbb hx
          gi_wp2
          refine bodyPost_ret (results_none rfl _ _ _) rfl ?_
          exact ⟨⟨_, rfl⟩, .inr ⟨_, ⟨k + 1, by omega, (upto_succ _ _).symm⟩, hHX.out⟩⟩
        · have hx : J (upto (fun j => (j, eg ls j)) k ++ [(k, eg ls k)]) W2 ∧ KpE n₀ Bs W1.drew W2 := by
            rcases hbb.out with ⟨_, h⟩ | ⟨h, _⟩
            · exact h
            · cases h
          have hHX := Lib.hid hx
          clear hbb hx
          gi_wp2
          go_roundw
          case rel => exact ⟨k + 1, by omega, by simp, by rw [upto_succ]; exact hHX.out.1, hHK.out.trans (hKp1.out.trans hHX.out.2), hHx.out.trans (hKp1.out.1.trans hHX.out.2.1)⟩
          case measure => simp [intOf]; omega
    · obtain rfl : k = ls.length := by omega
      gi_wp2
      go_end0
      exact ⟨⟨_, rfl⟩, .inl ⟨_, rfl, hHJs.out⟩⟩
end Go.Proofs.Ytdefpcjlbganpaa
