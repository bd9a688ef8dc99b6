import Derived.RangeFuncNested
import Derived.RangeFuncBox
import Derived.RangeFuncBound
import Derived.RangeFuncCalls
import Derived.RangeFuncLeaves
import Derived.Shelf.Abstract
import Derived.Shelf.RegionOpen
import Derived.BigRegionIn
import Derived.Stop.RegionWithIn
import Derived.WalkKit
import Derived.OwnWalkIn
import Derived.TacticsInMore
import Derived.LoopNIn
import Derived.LoopIn
import Derived.Lib.Hide
import Derived.IntWalk
import Derived.Test.YtdefpcjlbganpaaRingsLaw
namespace Go.Proofs.Ytdefpcjlbganpaa
open Go.RowKit Go.Shelf
attribute [local go_sem] Oper.semAt_some
/-- The points of a column of a box, of its first columns. -/
def colP (b : Bx) (i j : Nat) : List Pt := (List.range j).map fun (k : Nat) => ⟨b.x.lo + (i : Int), b.y.lo + (k : Int)⟩
def nX (b : Bx) : Nat := (b.x.hi - b.x.lo + 1).toNat
def nY (b : Bx) : Nat := (b.y.hi - b.y.lo + 1).toNat
def grP (b : Bx) (i : Nat) : List Pt := (List.range i).flatMap fun k => colP b k (nY b)
theorem colP_succ (b : Bx) (i j : Nat) : colP b i (j + 1) = colP b i j ++ [⟨b.x.lo + (i : Int), b.y.lo + (j : Int)⟩] := by simp [colP, List.range_succ]
theorem grP_succ (b : Bx) (i : Nat) : grP b (i + 1) = grP b i ++ colP b i (nY b) := by simp [grP, List.range_succ]
theorem colP_len (b : Bx) (i j : Nat) : (colP b i j).length = j := by simp [colP]
theorem grP_len (b : Bx) (i : Nat) : (grP b i).length = i * nY b := by
  induction i with
  | zero => simp [grP]
  | succ i ih => rw [grP_succ, List.length_append, ih, colP_len, Nat.succ_mul]
/-- All points of a box. -/
def gridP (b : Bx) : List Pt := grP b (nX b)
theorem grP_pre (b : Bx) {i n : Nat} (h : i ≤ n) : grP b i <+: grP b n := by
  obtain ⟨m, rfl⟩ : ∃ m, n = i + m := ⟨n - i, by omega⟩
  clear h
  induction m with
  | zero => exact List.prefix_rfl
  | succ m ih => rw [show i + (m + 1) = (i + m) + 1 from by omega, grP_succ]; exact ih.trans (List.prefix_append _ _)
theorem colP_pre (b : Bx) (i : Nat) {j n : Nat} (h : j ≤ n) : colP b i j <+: colP b i n := by
  obtain ⟨m, rfl⟩ : ∃ m, n = j + m := ⟨n - j, by omega⟩
  clear h
  induction m with
  | zero => exact List.prefix_rfl
  | succ m ih => rw [show j + (m + 1) = (j + m) + 1 from by omega, colP_succ]; exact ih.trans (List.prefix_append _ _)
theorem gr_pre (b : Bx) {i j : Nat} (hi : i < nX b) (hj : j ≤ nY b) : grP b i ++ colP b i j <+: gridP b := by
  refine List.IsPrefix.trans ?_ (grP_pre b (show i + 1 ≤ nX b by omega))
  rw [grP_succ]
  exact (List.prefix_append_right_inj _).2 (colP_pre b i hj)
/-- What a round keeps: what lies below n, and a block. -/
def KpC (n Bs : Nat) (W W' : World) : Prop := Below n W W' ∧ ∀ o v, W.cell? ⟨Bs, o, none⟩ = some v → W'.cell? ⟨Bs, o, none⟩ = some v
theorem KpC.trans {n Bs : Nat} {A B C : World} (h : KpC n Bs A B) (k : KpC n Bs B C) : KpC n Bs A C := ⟨h.1.trans k.1, fun o v e => k.2 o v (h.2 o v e)⟩
abbrev ptA (p : Pt) : Array Value := #[.agg #[.int .i64 p.x, .int .i64 p.y]]
set_option maxRecDepth 100000 in
set_option maxHeartbeats 4000000 in
theorem points1_in (F : Fence) (n : Nat) (h143 : F.fn 143) (hro : F.round = none) (hn : 1 ≤ n) (l Bs n₀ : Nat) (b : Bx) (hb : okB b = true) (J Jx : List Pt → World → Prop) (W : World)
    (_hn0 : n₀ ≤ W.heap.size)
    (hY : ∀ pre x W, J pre W → pre.length < (gridP b).length → YieldAt F (n - 1) Try.prog l (ptA x) W fun e W' =>
      (e = .returned (.bool true) ∧ J (pre ++ [x]) W' ∧ KpC n₀ Bs W W') ∨ (e = .returned (.bool false) ∧ Jx (pre ++ [x]) W'))
    (hB0 : W.cell? ⟨Bs, 0, none⟩ = some (.int .i64 b.x.lo)) (hB1 : W.cell? ⟨Bs, 1, none⟩ = some (.int .i64 b.x.hi)) (hB2 : W.cell? ⟨Bs, 2, none⟩ = some (.int .i64 b.y.lo)) (hB3 : W.cell? ⟨Bs, 3, none⟩ = some (.int .i64 b.y.hi)) (h0 : J [] W) :
    CallsIn F n Try.prog 143 #[.func (.yield l) #[] #[], .pointer (some ⟨Bs, 0, none⟩)] W fun e W' => (∃ v, e = .returned v) ∧
      ((∃ ys, ys = gridP b ∧ J ys W') ∨ (∃ pre, pre <+: gridP b ∧ Jx pre W')) := by
  obtain ⟨Ff, Fd, Fa, Fr⟩ := F
  obtain rfl : Fr = none := hro
  obtain ⟨hbx, hby⟩ := okB_iff.1 hb
  obtain ⟨x1, x2, x3⟩ := okS_iff.1 hbx
  obtain ⟨y1, y2, y3⟩ := okS_iff.1 hby
  have x2' := okC_iff.1 x2
  have x3' := okC_iff.1 x3
  have y2' := okC_iff.1 y2
  have y3' := okC_iff.1 y3
  have hnx : ((nX b : Nat) : Int) = b.x.hi - b.x.lo + 1 := by unfold nX; omega
  have hny : ((nY b : Nat) : Int) = b.y.hi - b.y.lo + 1 := by unfold nY; omega
  have HY := Lib.hid hY
  have HNX := Lib.hid (And.intro hnx hny)
  clear x2 x3 y2 y3 hbx hby hY hb hnx hny
  refine callsIn_of_wp Try.func143 rfl h143 ?_ rfl
  simp only [Try.ntmps143, List.size_toArray, List.length_cons, List.length_nil, Nat.reduceAdd, Nat.reduceSub, Array.replicate_succ, Array.replicate_zero, List.push_toArray, List.append_toArray, List.nil_append, List.cons_append]
  gi_wp2
  gi_loopw [3] (fun i wr => ∃ k : Nat, k ≤ nX b ∧ i = .int .i64 (b.x.lo + (k : Int)) ∧ J (grP b k) wr ∧ KpC n₀ Bs W wr)
    (fun i _ => (b.x.hi + 1 - intOf i).toNat)
  case atStart => exact ⟨0, Nat.zero_le _, by simp, h0, ⟨Below.refl _ _, fun _ _ h => h⟩⟩
  case round =>
    obtain ⟨k, hk, rfl, hJs, hKs⟩ := hrel
    have HJs := Lib.hid hJs
    have HKs := Lib.hid hKs
    have c0 := hKs.2 0 _ hB0
    have c1 := hKs.2 1 _ hB1
    have c2 := hKs.2 2 _ hB2
    have c3 := hKs.2 3 _ hB3
    clear hJs hKs h0
    by_cases hlt : k < nX b
    · have hle : b.x.lo + (k : Int) ≤ b.x.hi := by have := HNX.out.1; omega
      obtain ⟨wo, rfl⟩ : ∃ wo : World, wo = wr := ⟨_, rfl⟩
      gi_wp2
      gi_loopw [4] (fun i wx => ∃ j : Nat, j ≤ nY b ∧ i = .int .i64 (b.y.lo + (j : Int)) ∧ J (grP b k ++ colP b k j) wx ∧ KpC n₀ Bs W wx)
        (fun i _ => (b.y.hi + 1 - intOf i).toNat)
      case atStart => exact ⟨0, Nat.zero_le _, by simp, by simpa [colP] using HJs.out, HKs.out⟩
      case round =>
        obtain ⟨j, hj, rfl, hJs, hKs⟩ := hrel
        have HJ2 := Lib.hid hJs
        have HK2 := Lib.hid hKs
        clear c0 c1 c2 c3 HJs HKs
        have c0 := hKs.2 0 _ hB0
        have c1 := hKs.2 1 _ hB1
        have c2 := hKs.2 2 _ hB2
        have c3 := hKs.2 3 _ hB3
        clear hJs hKs
        by_cases hlt2 : j < nY b
        · have hle2 : b.y.lo + (j : Int) ≤ b.y.hi := by have := HNX.out.2; omega
          have hcount : (grP b k ++ colP b k j).length < (gridP b).length := by
            rw [List.length_append, grP_len, colP_len, gridP, grP_len]
            have := Nat.mul_le_mul_right (nY b) (show k + 1 ≤ nX b by omega)
            rw [Nat.succ_mul] at this
            omega
          obtain ⟨fn, tmps, assign, body, hy, hR⟩ := HY.out (grP b k ++ colP b k j) ⟨b.x.lo + (k : Int), b.y.lo + (j : Int)⟩ wr HJ2.out hcount
          dsimp only [ptA] at hy
          have hR2 := hR.mono (R' := fun e W' => ∃ bb : Bool, e = .returned (.bool bb) ∧ Hid ((bb = true ∧ J (grP b k ++ colP b k j ++ [⟨b.x.lo + (k : Int), b.y.lo + (j : Int)⟩]) W' ∧ KpC n₀ Bs wr W') ∨ (bb = false ∧ Jx (grP b k ++ colP b k j ++ [⟨b.x.lo + (k : Int), b.y.lo + (j : Int)⟩]) W')))
            (fun e W' h => by
              rcases h with ⟨rfl, h1, h2⟩ | ⟨rfl, h1⟩
              · exact ⟨true, rfl, Or.inl ⟨rfl, h1, h2⟩⟩
              · exact ⟨false, rfl, Or.inr ⟨rfl, h1⟩⟩)
          clear hR hcount
          gi_wp2_with (refine hR2.mono ?_; rintro e W2 ⟨bb, rfl, hbb⟩)
          · rename_i hz
            cases bb
            · have hx : Jx (grP b k ++ colP b k j ++ [⟨b.x.lo + (k : Int), b.y.lo + (j : Int)⟩]) W2 := by
                rcases hbb.out with ⟨h, _⟩ | ⟨_, h⟩
                · cases h
                · exact h
              have HPR := gr_pre b hlt (show j + 1 ≤ nY b by omega)
              rw [colP_succ, ← List.append_assoc] at HPR
              refine bodyPost_ret (results_none rfl _ _ _) rfl ?_
              exact ⟨⟨_, rfl⟩, .inr ⟨_, HPR, hx⟩⟩
            · simp at hz
          · rename_i hz
            cases bb
            · simp at hz
            · have hx : J (grP b k ++ colP b k j ++ [⟨b.x.lo + (k : Int), b.y.lo + (j : Int)⟩]) W2 ∧ KpC n₀ Bs wr W2 := by
                rcases hbb.out with ⟨_, h⟩ | ⟨h, _⟩
                · exact h
                · cases h
              go_roundw
              case rel => exact ⟨j + 1, by omega, by simp; omega, by rw [colP_succ, ← List.append_assoc]; exact hx.1, HK2.out.trans hx.2⟩
              case measure => simp [intOf]; omega
        · obtain rfl : j = nY b := by omega
          have hgt2 : ¬ b.y.lo + ((nY b : Nat) : Int) ≤ b.y.hi := by have := HNX.out.2; omega
          gi_wp2
          go_roundw
          case rel => exact ⟨k + 1, by omega, by simp; omega, by rw [grP_succ]; exact HJ2.out, HK2.out⟩
          case measure => simp [intOf]; omega
    · obtain rfl : k = nX b := by omega
      have hgt : ¬ b.x.lo + ((nX b : Nat) : Int) ≤ b.x.hi := by have := HNX.out.1; omega
      gi_wp2
      go_end0
      exact ⟨⟨_, rfl⟩, .inl HJs.out⟩
theorem points_stops (F : Fence) (n : Nat) (h143 : F.fn 143) (hro : F.round = none) (hn : 1 ≤ n) (Bs n₀ : Nat) (b : Bx) (hb : okB b = true) (w : World) (hBs : Bs < w.heap.size) (hn0 : n₀ ≤ w.heap.size)
    (hB0 : w.cell? ⟨Bs, 0, none⟩ = some (.int .i64 b.x.lo)) (hB1 : w.cell? ⟨Bs, 1, none⟩ = some (.int .i64 b.x.hi)) (hB2 : w.cell? ⟨Bs, 2, none⟩ = some (.int .i64 b.y.lo)) (hB3 : w.cell? ⟨Bs, 3, none⟩ = some (.int .i64 b.y.hi)) :
    SeqStopsK F n Try.prog 143 #[.pointer (some ⟨Bs, 0, none⟩)] ptA (KpC n₀ Bs) (fun ys => ys = gridP b) (fun pre => pre <+: gridP b) (gridP b).length w := fun l J Jx W hW hJ _ hY h0 => by
  refine (points1_in F n h143 hro hn l Bs n₀ b hb J Jx W (Nat.le_trans hn0 hW.size) hY ((hW.cell (p := ⟨Bs, 0, none⟩) hBs).trans hB0) ((hW.cell (p := ⟨Bs, 1, none⟩) hBs).trans hB1) ((hW.cell (p := ⟨Bs, 2, none⟩) hBs).trans hB2) ((hW.cell (p := ⟨Bs, 3, none⟩) hBs).trans hB3) h0).mono ?_
  rintro e W' ⟨he, ⟨ys, rfl, hj⟩ | ⟨pre, hp, hj⟩⟩
  · exact ⟨he, .inl ⟨_, rfl, hj⟩⟩
  · exact ⟨he, .inr ⟨_, hp, hj⟩⟩
theorem kpC_t {n Bs : Nat} : ∀ {A B C : World}, KpC n Bs A B → KpC n Bs B C → KpC n Bs A C := fun h k => h.trans k
theorem kpC_b {w : World} {n Bs : Nat} (hn : n ≤ w.heap.size) (hB : Bs < w.heap.size) : ∀ (W : World) (l : Nat) (o o' : Obj), w.heap.size ≤ l → W.heap[l]? = some o → o.isCells = false → o.isWalk = false → KpC n Bs W (W.putObj l o') := fun W l o o' hl ho h1 h2 =>
  have hb := belowK_b (n₀ := w.heap.size) (w := w) (Nat.le_refl _) W l o o' hl ho h1 h2
  ⟨hb.mono hn, fun u _ h => (hb.cell (p := ⟨Bs, u, none⟩) hB).trans h⟩
theorem KpC.set {n Bs : Nat} {W : World} {b o : Nat} (v : Value) (hn : n ≤ b) (hB : Bs ≠ b) : KpC n Bs W (W.setCell ⟨b, o, none⟩ v) :=
  ⟨(Below.refl n W).setCell (p := ⟨b, o, none⟩) hn v, fun _ _ h => by rw [World.cell?_setCell_other _ _ _ _ (fun e => hB (by injection e with e1; exact e1.symm))]; exact h⟩
theorem KpC.of {n Bs : Nat} {W W' : World} (hb : Below W.heap.size W W') (hn : n ≤ W.heap.size) : KpC n Bs W W' :=
  ⟨hb.mono hn, fun u _ h => (hb.cell (p := ⟨Bs, u, none⟩) (World.block_lt_of_cell? W _ h)).trans h⟩
set_option maxHeartbeats 1000000 in
theorem points_in (F : Fence) (n : Nat) (h129 : F.fn 129) (hro : F.round = none) (b : Bx) (w : World) :
    CallsIn F n Try.prog 129 #[b.v] w fun e w' => e = .returned (.func (.func 143) #[] #[.pointer (some ⟨w.heap.size, 0, none⟩)]) ∧ w' = w.alloc (.cells #[.int .i64 b.x.lo, .int .i64 b.x.hi, .int .i64 b.y.lo, .int .i64 b.y.hi] 60) := by
  refine callsIn_of_wp Try.func129 rfl h129 ?_ hro
  simp only [Try.ntmps129, List.size_toArray, List.length_cons, List.length_nil, Nat.reduceAdd, Nat.reduceSub, Array.replicate_succ, Array.replicate_zero, List.push_toArray, List.append_toArray, List.nil_append, List.cons_append]
  gi_wp2
  go_ret
  exact ⟨rfl, rfl⟩
end Go.Proofs.Ytdefpcjlbganpaa
