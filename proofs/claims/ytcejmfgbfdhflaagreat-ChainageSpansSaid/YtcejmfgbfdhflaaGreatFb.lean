import Derived.Test.YtcejmfgbfdhflaaGreatFa
import Derived.WalkKit
import Derived.LoopTactic
import Derived.WalkSpells
import Derived.WalkLawsBesides
import Derived.Lib.Hide
import Derived.BigQuiet
import Derived.IntWalk
import Derived.Deep.DeepMust
import Derived.WalkSmall
import Derived.StillTailTactics
import Derived.Deep.RegionLaw
import Derived.Deep.RegionHeld3
import Derived.Deep.QuietTactic
namespace Go.Proofs.YtcejmfgbfdhflaaGreat
open Go.RowKit Go.BigFrame Go.Sort Go.Shelf
attribute [local go_sem] World.cell?_alloc_some
attribute [local go_sem] Oper.semAt_some
theorem grown_drewE (w : World) (row : Option Nat) : w.grownBy w.drew row := ⟨rfl, rfl, rfl, Nat.le_refl _, fun _ _ _ => rfl⟩
theorem AbidesFrom.dr {β : Type} {B : Nat} {J : β → World → Prop} (h : AbidesFrom B J) {s : β} {W : World} (hs : J s W) : J s W.drew := h s W _ none hs (grown_drewE W none) (fun r e => by cases e)
def yrs (lo : Int) (k : Nat) : List Int := (List.range k).map fun j : Nat => lo + (j : Int)
/-- The first numbers below N. -/
def upN (N k : Nat) : List (Fin N) := (List.finRange N).take k
theorem upN_succ (N k : Nat) (h : k < N) : upN N (k + 1) = upN N k ++ [⟨k, h⟩] := by
  unfold upN
  rw [take_snocG (List.finRange N) k (by simpa using h)]
  simp
theorem upN_length (N k : Nat) (h : k ≤ N) : (upN N k).length = k := by simp [upN]; omega
theorem upN_all (N : Nat) : upN N N = List.finRange N := by unfold upN; exact List.take_of_length_le (by simp)
theorem upN_map {α : Type} (f : Int → α) (lo : Int) (N : Nat) : (List.finRange N).map (fun i => f (lo + (i.1 : Int))) = (yrs lo N).map f := by
  unfold yrs
  apply List.ext_getElem
  · simp
  · intro j h1 h2
    simp
/-- What a round keeps: the span's box. -/
def KpR (Bs : Nat) (W W' : World) : Prop := ∀ (o : Nat) v, W.cell? ⟨Bs, o, none⟩ = some v → W'.cell? ⟨Bs, o, none⟩ = some v
theorem kpR_t {Bs : Nat} : ∀ {A B C : World}, KpR Bs A B → KpR Bs B C → KpR Bs A C := fun h k o v e => k o v (h o v e)
set_option maxRecDepth 100000 in
set_option maxHeartbeats 2000000 in
theorem each1_in (F : Fence) (n : Nat) (h185 : F.fn 185) (hro : F.round = none) (hn : 1 ≤ n) (l Bs : Nat) (lo : Int) (N : Nat) (hlo : -1000000 ≤ lo ∧ lo ≤ 1000000) (hN : N ≤ 1000000) (J Jx : List (Fin N) → World → Prop) (W : World)
    (hJ : AbidesFrom W.heap.size J)
    (hY : ∀ pre x W, J pre W → pre.length < N → YieldAt F (n - 1) Tryz.prog l #[.int .i64 (lo + (x.1 : Int))] W fun e W' =>
      (e = .returned (.bool true) ∧ J (pre ++ [x]) W' ∧ KpR Bs W W') ∨ (e = .returned (.bool false) ∧ Jx (pre ++ [x]) W'))
    (hB0 : W.cell? ⟨Bs, 0, none⟩ = some (.int .i64 lo)) (hB1 : W.cell? ⟨Bs, 1, none⟩ = some (.int .i64 (lo + (N : Int) - 1))) (h0 : J [] W) :
    CallsIn F n Tryz.prog 185 #[.func (.yield l) #[] #[], .pointer (some ⟨Bs, 0, none⟩)] W fun e W' => (∃ v, e = .returned v) ∧
      ((∃ ys, ys = List.finRange N ∧ J ys W') ∨ (∃ pre, (∃ k, k ≤ N ∧ pre = upN N k) ∧ Jx pre W')) := by
  obtain ⟨Ff, Fd, Fa, Fr⟩ := F
  obtain rfl : Fr = none := hro
  refine callsIn_of_wp Tryz.func185 rfl h185 ?_ rfl
  simp only [Tryz.ntmps185, List.size_toArray, List.length_cons, List.length_nil, Nat.reduceAdd, Nat.reduceSub, Array.replicate_succ, Array.replicate_zero, List.push_toArray, List.append_toArray, List.nil_append, List.cons_append]
  gi_wp2
  gi_loopw [3] (fun i wr => ∃ k : Nat, k ≤ N ∧ i = .int .i64 (lo + (k : Int)) ∧ J (upN N k) wr ∧ KpR Bs W wr)
    (fun i _ => N - (intOf i - lo).toNat)
  case atStart => exact ⟨0, Nat.zero_le _, by simp, h0, fun _ _ h => h⟩
  case round =>
    obtain ⟨k, hk, rfl, hJs, hKs⟩ := hrel
    have hHJ := Lib.hid hJ
    have hHY := Lib.hid hY
    have hHJs := Lib.hid hJs
    have hHK := Lib.hid hKs
    have c1 := hKs _ _ hB1
    clear hJ hY hJs hKs h0
    have hw0 : IntKind.i64.wrap (lo + (k : Int) + 1) = lo + (k : Int) + 1 := (wrapEq _).trans (w64 (by omega))
    by_cases hlt : k < N
    · have hz : lo + (k : Int) ≤ lo + (N : Int) - 1 := by omega
      obtain ⟨fn, tmps, assign, body, hy, hR⟩ := hHY.out (upN N k) ⟨k, hlt⟩ wr hHJs.out (by rw [upN_length _ _ (by omega)]; exact hlt)
      have hR2 := hR.mono (R' := fun e W' => ∃ bb : Bool, e = .returned (.bool bb) ∧ Hid ((bb = true ∧ J (upN N k ++ [⟨k, hlt⟩]) W' ∧ KpR Bs wr W') ∨ (bb = false ∧ Jx (upN N k ++ [⟨k, hlt⟩]) W')))
        (fun e W' h => by
          rcases h with ⟨rfl, h1, h2⟩ | ⟨rfl, h1⟩
          · exact ⟨true, rfl, Or.inl ⟨rfl, h1, h2⟩⟩
          · exact ⟨false, rfl, Or.inr ⟨rfl, h1⟩⟩)
      clear hR
      gi_wp2_with (refine hR2.mono ?_; rintro e W2 ⟨bb, rfl, hbb⟩)
      · have hbf : bb = false := by first | assumption | simp_all
        subst hbf
        have hx : Jx (upN N k ++ [⟨k, hlt⟩]) W2 := by
          rcases hbb.out with ⟨h, _⟩ | ⟨_, h⟩
          · cases h
          · exact h
        refine bodyPost_ret (results_none rfl _ _ _) rfl ?_
        exact ⟨⟨_, rfl⟩, .inr ⟨_, ⟨k + 1, by omega, (upN_succ _ _ _).symm⟩, hx⟩⟩
      · have hbf : bb = true := by first | assumption | simp_all
        subst hbf
        have hx : J (upN N k ++ [⟨k, hlt⟩]) W2 ∧ KpR Bs wr W2 := by
          rcases hbb.out with ⟨_, h⟩ | ⟨h, _⟩
          · exact h
          · cases h
        refine ⟨⟨k + 1, by omega, by first | (simp; omega) | (congr 1; push_cast; omega), by rw [upN_succ _ _ hlt]; exact hx.1, kpR_t hHK.out hx.2⟩, ?_⟩
        simp [intOf]; omega
    · obtain rfl : k = N := by omega
      have hz : ¬ (lo + (k : Int) ≤ lo + (k : Int) - 1) := by omega
      gi_wp2
      go_end0
      exact ⟨⟨_, rfl⟩, .inl (by have := hHJs.out; rwa [upN_all] at this)⟩
set_option maxHeartbeats 1000000 in
theorem each_in (F : Fence) (n : Nat) (h131 : F.fn 131) (hro : F.round = none) (lo hi : Int) (w : World) :
    CallsIn F n Tryz.prog 131 #[spv lo hi] w fun e w' => e = .returned (.func (.func 185) #[] #[.pointer (some ⟨w.heap.size, 0, none⟩)]) ∧ w' = w.alloc (.cells #[.int .i64 lo, .int .i64 hi] 30) := by
  refine callsIn_of_wp Tryz.func131 rfl h131 ?_ hro
  simp only [Tryz.ntmps131, List.size_toArray, List.length_cons, List.length_nil, Nat.reduceAdd, Nat.reduceSub, Array.replicate_succ, Array.replicate_zero, List.push_toArray, List.append_toArray, List.nil_append, List.cons_append]
  gi_wp2
  go_ret
  exact ⟨rfl, rfl⟩
abbrev yrA (lo : Int) (N : Nat) (x : Fin N) : Array Value := #[.int .i64 (lo + (x.1 : Int))]
theorem each_stops (F : Fence) (n : Nat) (h185 : F.fn 185) (hro : F.round = none) (hn : 1 ≤ n) (Bs : Nat) (lo : Int) (N : Nat) (hlo : -1000000 ≤ lo ∧ lo ≤ 1000000) (hN : N ≤ 1000000) (w : World) (hBs : Bs < w.heap.size)
    (hB0 : w.cell? ⟨Bs, 0, none⟩ = some (.int .i64 lo)) (hB1 : w.cell? ⟨Bs, 1, none⟩ = some (.int .i64 (lo + (N : Int) - 1))) :
    SeqStopsK F n Tryz.prog 185 #[.pointer (some ⟨Bs, 0, none⟩)] (yrA lo N) (KpR Bs) (fun ys => ys = List.finRange N) (fun pre => ∃ k, k ≤ N ∧ pre = upN N k) N w := fun l J Jx W hW hJ _ hY h0 => by
  refine (each1_in F n h185 hro hn l Bs lo N hlo hN J Jx W hJ hY ((hW.cell (p := ⟨Bs, 0, none⟩) hBs).trans hB0) ((hW.cell (p := ⟨Bs, 1, none⟩) hBs).trans hB1) h0).mono ?_
  rintro e W' ⟨he, ⟨ys, rfl, hj⟩ | ⟨pre, ⟨k, hk, rfl⟩, hj⟩⟩
  · exact ⟨he, .inl ⟨_, rfl, hj⟩⟩
  · exact ⟨he, .inr ⟨_, ⟨k, hk, rfl⟩, hj⟩⟩
theorem KpR.of {Bs : Nat} {W W' : World} (hb : Below W.heap.size W W') : KpR Bs W W' := fun o _ h => (hb.cell (p := ⟨Bs, o, none⟩) (World.block_lt_of_cell? W _ h)).trans h
theorem KpR.set {Bs : Nat} {W : World} {b o : Nat} (v : Value) (hB : Bs ≠ b) : KpR Bs W (W.setCell ⟨b, o, none⟩ v) := fun k _ h => by
  rw [World.cell?_setCell_other _ _ _ _ (fun e => hB (by injection e with e1; exact e1.symm))]; exact h
theorem kpR_b {w : World} {Bs : Nat} (hB : Bs < w.heap.size) : ∀ (W : World) (l : Nat) (o o' : Obj), w.heap.size ≤ l → W.heap[l]? = some o → o.isCells = false → o.isWalk = false → KpR Bs W (W.putObj l o') := fun W l o o' hl ho h1 h2 => fun k _ h =>
  have hb := belowK_b (n₀ := w.heap.size) (w := w) (Nat.le_refl _) W l o o' hl ho h1 h2
  (hb.cell (p := ⟨Bs, k, none⟩) hB).trans h
theorem Cs.own {W W' : World} {row : Option Nat} (hg : W.grownBy W' row) (hr : ∀ r, row = some r → ∃ o : Obj, W.heap[r]? = some o ∧ o.isCells = false) : ∀ {l : List (Nat × Nat × Value)}, Cs W l → Cs W' l
  | [], _ => trivial
  | _ :: _, h => ⟨⟨Nat.lt_of_lt_of_le h.1.1 hg.size, cell_kept h.1.2.1 hg hr, (frozen_kept h.1.2.1 hg hr).trans h.1.2.2⟩, Cs.own hg hr h.2⟩
theorem KeepsFrom.of_below {B : Nat} {W W' : World} (hb : Below W.heap.size W W') : KeepsFrom B W W' := ⟨hb.size, fun k _ _ hk _ => (hb.block k (Array.getElem?_eq_some_iff.1 hk).1).trans hk⟩
end Go.Proofs.YtcejmfgbfdhflaaGreat
