import Derived.Test.YtmfhpddeclggfaaGreatDoorVUb
import Derived.Test.YtmfhpddeclggfaaGreatDoorVc
import Derived.Test.YtmfhpddeclggfaaGreatDoorVTd0
import Derived.Test.YtmfhpddeclggfaaGreatDoorVTb
import Derived.Test.YtmfhpddeclggfaaGreatDoorVIia
import Derived.Test.YtmfhpddeclggfaaGreatDoorTf
import Derived.Test.YtmfhpddeclggfaaGreatDoorVTc
import Derived.Test.YtmfhpddeclggfaaGreatDoorVTa
import Derived.Test.YtmfhpddeclggfaaGreatDoorVIfb
import Derived.Test.YtmfhpddeclggfaaGreatDoorKf
import Derived.Test.YtmfhpddeclggfaaGreatDoorOm
import Derived.Lib.ConvBytes
import Derived.Laws.IdiomStrings
import Derived.WalkKit
import Derived.LoopTactic
import Derived.WalkSpells
import Derived.WalkLawsBesides
import Derived.Lib.Hide
import Derived.BigQuiet
import Derived.IntWalk
import Derived.Deep.DeepMust
import Derived.WalkSmall
import Derived.StillTailTactics
import Derived.Deep.RegionLaw
import Derived.Deep.QuietTactic
import Derived.Deep.Cut
import Derived.Deep.DeepCutAuto
import Derived.Deep.LoopGhost
import Derived.Deep.RegionHeld3
import Derived.Laws.OwnMore
namespace Go.Proofs.YtmfhpddeclggfaaGreatDoor
open Go.RowKit
/-! The reading of a number in a book. -/
def flV (f : FL) : Value := .agg #[.int .i64 f.g.n, .slice f.g.p f.g.ws.length f.g.cap, .slice f.cp f.cn f.cc, .bool f.rs]
def FiP (w : World) (fs : List FL) (n : Int) (e : Ending) (w' : World) : Prop :=
  Below w.heap.size w w' ∧ ((∃ j, j < fs.length ∧ (fs.getD j default).g.n = n ∧ e = .returned (.tuple #[flV (fs.getD j default), .bool true])) ∨
    ((∀ j, j < fs.length → (fs.getD j default).g.n ≠ n) ∧ e = .returned (.tuple #[.agg #[.int .i64 0, .slice none 0 0, .slice none 0 0, .bool false], .bool false])))
theorem founds_at {W : World} {p : Option Addr} {fs : List FL} (h : FoundsAt W p fs) {j : Nat} (hj : j < fs.length) : ∃ b o, p = some ⟨b, o, none⟩ ∧ b < W.heap.size ∧ W.cell? ⟨b, o + j * 4, none⟩ = some (.int .i64 (fs.getD j default).g.n) ∧ W.cell? ⟨b, o + j * 4 + 1, none⟩ = some (.slice (fs.getD j default).g.p (fs.getD j default).g.ws.length (fs.getD j default).g.cap) ∧ W.cell? ⟨b, o + j * 4 + 2, none⟩ = some (.slice (fs.getD j default).cp (fs.getD j default).cn (fs.getD j default).cc) ∧ W.cell? ⟨b, o + j * 4 + 3, none⟩ = some (.bool (fs.getD j default).rs) := by
  rcases h.1 with h0 | ⟨b, o, h1, h2, h3⟩
  · rw [h0] at hj; exact absurd hj (Nat.not_lt_zero _)
  · exact ⟨b, o, h1, h2, h3 j hj⟩
set_option maxRecDepth 100000 in
set_option maxHeartbeats 4000000 in
theorem find_any (p q r : Option Addr) (c d k nq nr : Nat) (fs : List FL) (n : Int) (w : World) (hl : fs.length ≤ 1000000000) (hp : FoundsAt w p fs) :
    Calls Tryz.prog 68 #[.agg #[.slice p fs.length c, .slice q nq d, .slice r nr k], .int .i64 n] w (FiP w fs n) := by
  have HP := Lib.hid hp
  obtain ⟨N, hN⟩ : ∃ N, Hid (fs.length = N) := ⟨_, rfl⟩
  rw [hN.out] at hl ⊢
  clear hp
  have B0 : Hid (Below w.heap.size w (w.alloc (.cells #[.slice p N c, .slice q nq d, .slice r nr k] 78))) := below_alloc1 _ _
  have x0 := nw_at w #[.slice p N c, .slice q nq d, .slice r nr k] 78 0 _ rfl
  have hs0 : (w.alloc (.cells #[.slice p N c, .slice q nq d, .slice r nr k] 78)).heap.size = w.heap.size + 1 := by simp
  obtain ⟨Wb, hWb⟩ : ∃ Wb, Hid (w.alloc (.cells #[.slice p N c, .slice q nq d, .slice r nr k] 78) = Wb) := ⟨_, rfl⟩
  rw [hWb.out] at B0 x0 hs0
  have B1 : Hid (Below Wb.heap.size Wb (Wb.alloc (.cells #[.int .i64 0, .slice none 0 0, .slice none 0 0, .bool false] 87))) := below_alloc1 _ _
  have z0 := nw_at Wb #[.int .i64 0, .slice none 0 0, .slice none 0 0, .bool false] 87 0 _ rfl
  have z1 := nw_at Wb #[.int .i64 0, .slice none 0 0, .slice none 0 0, .bool false] 87 1 _ rfl
  have z2 := nw_at Wb #[.int .i64 0, .slice none 0 0, .slice none 0 0, .bool false] 87 2 _ rfl
  have z3 := nw_at Wb #[.int .i64 0, .slice none 0 0, .slice none 0 0, .bool false] 87 3 _ rfl
  have zf := frozen_new Wb #[.int .i64 0, .slice none 0 0, .slice none 0 0, .bool false] 87
  have hs1 : (Wb.alloc (.cells #[.int .i64 0, .slice none 0 0, .slice none 0 0, .bool false] 87)).heap.size = Wb.heap.size + 1 := by simp
  obtain ⟨W1, hW1⟩ : ∃ W1, Hid (Wb.alloc (.cells #[.int .i64 0, .slice none 0 0, .slice none 0 0, .bool false] 87) = W1) := ⟨_, rfl⟩
  rw [hW1.out] at B1 z0 z1 z2 z3 zf hs1
  have x0' := (B1.out.cell (p := ⟨w.heap.size, 0, none⟩) (by show w.heap.size < _; omega)).trans x0
  have BW : Hid (Below w.heap.size w W1) := B0.out.trans (B1.out.mono B0.out.size)
  have HR : Hid (Below W1.heap.size W1 W1) := Below.refl _ _
  have Z := Lib.hid (fun V (hb : Below W1.heap.size W1 V) => (⟨(hb.cell (p := ⟨Wb.heap.size, 0, none⟩) (by show Wb.heap.size < _; omega)).trans z0, (hb.cell (p := ⟨Wb.heap.size, 1, none⟩) (by show Wb.heap.size < _; omega)).trans z1, (hb.cell (p := ⟨Wb.heap.size, 2, none⟩) (by show Wb.heap.size < _; omega)).trans z2, (hb.cell (p := ⟨Wb.heap.size, 3, none⟩) (by show Wb.heap.size < _; omega)).trans z3, fun o => (hb.frozen (p := ⟨Wb.heap.size, o, none⟩) (by show Wb.heap.size < _; omega)).trans (zf o)⟩ : V.cell? ⟨Wb.heap.size, 0, none⟩ = some (.int .i64 0) ∧ V.cell? ⟨Wb.heap.size, 1, none⟩ = some (.slice none 0 0) ∧ V.cell? ⟨Wb.heap.size, 2, none⟩ = some (.slice none 0 0) ∧ V.cell? ⟨Wb.heap.size, 3, none⟩ = some (.bool false) ∧ ∀ o, V.frozen? ⟨Wb.heap.size, o, none⟩ = false))
  have HSB : Hid (w.heap.size ≤ w.heap.size + 1) := Nat.le_succ _
  rw [hs0] at Z
  clear x0 z0 z1 z2 z3 zf hs0 hs1
  go_enter Tryz.func68, Tryz.ntmps68
  go_upto_region 1 with (fail)
  rw [hWb.out, hW1.out]
  clear hWb hW1
  go_wp2_with fail
  clear x0'
  go_loopw [11] (fun i wr => ∃ m : Nat, m ≤ N ∧ i = .int .i64 m ∧ Hid (Below W1.heap.size W1 wr) ∧ Hid (∀ j, j < m → (fs.getD j default).g.n ≠ n)) (fun i _ => N - (nT i).toNat)
  case atStart => exact ⟨0, Nat.zero_le _, rfl, HR, fun j hj => absurd hj (Nat.not_lt_zero _)⟩
  case round =>
    obtain ⟨m, hm, rfl, HB, HA⟩ := hrel
    obtain ⟨V, rfl⟩ : ∃ V, V = wr := ⟨_, rfl⟩
    by_cases hlt : m < N
    · obtain ⟨b, o, rfl, hb1, e0, e1, e2, e3⟩ := founds_at (HP.out.below (BW.out.trans (HB.out.mono BW.out.size))) (show m < fs.length by rw [hN.out]; exact hlt)
      obtain ⟨f, hff⟩ : ∃ f, Hid (fs.getD m default = f) := ⟨_, rfl⟩
      rw [hff.out] at e0 e1 e2 e3
      have HFV : Hid (flV (fs.getD m default) = .agg #[.int .i64 f.g.n, .slice f.g.p f.g.ws.length f.g.cap, .slice f.cp f.cn f.cc, .bool f.rs]) := by rw [hff.out]; rfl
      have HFN : Hid ((fs.getD m default).g.n = f.g.n) := by rw [hff.out]; rfl
      obtain ⟨⟨fn, fp, fc, fw⟩, gp, gn, gc, fr⟩ := f
      dsimp only at e0 e1 e2 e3 HFV HFN
      obtain ⟨fl, hfl⟩ : ∃ fl, Hid (fw.length = fl) := ⟨_, rfl⟩
      rw [hfl.out] at e1 HFV
      have HAL : Hid (Below V.heap.size V (V.alloc (.cells #[.int .i64 fn, .slice fp fl fc, .slice gp gn gc, .bool fr] 87))) := below_alloc1 _ _
      have y0 := nw_at V #[.int .i64 fn, .slice fp fl fc, .slice gp gn gc, .bool fr] 87 0 _ rfl
      have y1 := nw_at V #[.int .i64 fn, .slice fp fl fc, .slice gp gn gc, .bool fr] 87 1 _ rfl
      have y2 := nw_at V #[.int .i64 fn, .slice fp fl fc, .slice gp gn gc, .bool fr] 87 2 _ rfl
      have y3 := nw_at V #[.int .i64 fn, .slice fp fl fc, .slice gp gn gc, .bool fr] 87 3 _ rfl
      obtain ⟨Wa, hWa⟩ : ∃ Wa, Hid (V.alloc (.cells #[.int .i64 fn, .slice fp fl fc, .slice gp gn gc, .bool fr] 87) = Wa) := ⟨_, rfl⟩
      rw [hWa.out] at HAL y0 y1 y2 y3
      have HB3 : Hid (Below W1.heap.size W1 Wa) := HB.out.trans (HAL.out.mono HB.out.size)
      have hlt' : (m : Int) < (N : Int) := by omega
      have hm0 : (0 : Int) ≤ (m : Int) := by omega
      clear hb1 hff
      by_cases he : fn = n
      · have hbe : (fn == n) = true := by simp [he]
        obtain ⟨q0, q1, q2, q3, qf⟩ := Z.out Wa HB3.out
        have qf0 := qf 0
        have qf1 := qf 1
        have qf2 := qf 2
        have qf3 := qf 3
        have HE := Lib.hid he
        have HLT := Lib.hid hlt
        have HB9 : Hid (Below w.heap.size w Wa) := BW.out.trans (HB3.out.mono BW.out.size)
        clear he qf hlt
        as_aux_lemma =>
          go_upto_region 4 with (fail)
          rw [hWa.out]
          go_wp2_with fail
          refine bodyPost_ret (v := .tuple #[.agg #[.int .i64 fn, .slice fp fl fc, .slice gp gn gc, .bool fr], .bool true]) (by simp [results, Tryz.results68, go_sem, q0, q1, q2, q3]) rfl ?_
          refine ⟨(((HB9.out.setCell (p := ⟨w.heap.size + 1, 0, none⟩) HSB.out _).setCell (p := ⟨w.heap.size + 1, 1, none⟩) HSB.out _).setCell (p := ⟨w.heap.size + 1, 2, none⟩) HSB.out _).setCell (p := ⟨w.heap.size + 1, 3, none⟩) HSB.out _, .inl ⟨m, by rw [hN.out]; exact HLT.out, HFN.out.trans HE.out, by rw [HFV.out]⟩⟩
      · have hbe : (fn == n) = false := by rw [beq_eq_false_iff_ne]; exact he
        have HA2 : Hid (∀ j, j < m + 1 → (fs.getD j default).g.n ≠ n) := fun j hj => by
          by_cases e : j = m
          · rw [e, HFN.out]; exact he
          · exact HA.out j (by omega)
        clear he
        as_aux_lemma =>
          go_upto_region 4 with (fail)
          rw [hWa.out]
          go_wp2_with fail
          exact ⟨⟨m + 1, by omega, by go_num, HB3, HA2⟩, by simp [nT]; omega⟩
    · obtain rfl : m = N := by omega
      obtain ⟨q0, q1, q2, q3, qf⟩ := Z.out V HB.out
      have qf0 := qf 0
      have qf1 := qf 1
      have qf2 := qf 2
      have qf3 := qf 3
      have HB9 : Hid (Below w.heap.size w V) := BW.out.trans (HB.out.mono BW.out.size)
      clear qf
      as_aux_lemma =>
        go_wp2_with fail
        refine bodyPost_ret (v := .tuple #[.agg #[.int .i64 0, .slice none 0 0, .slice none 0 0, .bool false], .bool false]) (by simp [results, Tryz.results68, go_sem, q0, q1, q2, q3]) rfl ?_
        refine ⟨(((HB9.out.setCell (p := ⟨w.heap.size + 1, 0, none⟩) HSB.out _).setCell (p := ⟨w.heap.size + 1, 1, none⟩) HSB.out _).setCell (p := ⟨w.heap.size + 1, 2, none⟩) HSB.out _).setCell (p := ⟨w.heap.size + 1, 3, none⟩) HSB.out _, .inr ⟨fun j hj => HA.out j (by rw [← hN.out]; exact hj), rfl⟩⟩
end Go.Proofs.YtmfhpddeclggfaaGreatDoor
