import Derived.Test.YtmfhpddeclggfaaGreatDoorShp
import Derived.WalkKit
import Derived.LoopTactic
import Derived.WalkSpells
import Derived.WalkLawsBesides
import Derived.Lib.Hide
import Derived.BigQuiet
import Derived.IntWalk
import Derived.Deep.DeepMust
import Derived.WalkSmall
import Derived.StillTailTactics
import Derived.Deep.RegionLaw
import Derived.Deep.QuietTactic
import Derived.Deep.Cut
import Derived.Deep.DeepCutAuto
import Derived.Deep.LoopGhost
import Derived.Laws.AppendOwn
namespace Go.Proofs.YtmfhpddeclggfaaGreatDoor
open Go.RowKit
/-- What the reference's reading returns. -/
def RrP (s : ByteArray) (w : World) (e : Ending) (w' : World) : Prop := Below w.heap.size w w' ∧ ∃ (n : Int) (ws : List ByteArray) (q : Option Addr) (c : Nat), e = .returned (.agg #[.int .i64 n, .slice q ws.length c, .int .i64 (readErr s)]) ∧ StrsAt w' q ws ∧ (readErr s = 0 → n = lineN s ∧ ws = lineWs s) ∧ (readErr s ≠ 0 → n = 0 ∧ ws = []) ∧ PFrom w.heap.size q
theorem RrP.bad {s : ByteArray} {w w' : World} (er : Int) (hb : Below w.heap.size w w') (h : readErr s = er) (h0 : er ≠ 0) : RrP s w (.returned (.agg #[.int .i64 0, .slice none 0 0, .int .i64 er])) w' := by
  subst h
  exact ⟨hb, 0, [], none, 0, rfl, .inl rfl, fun e => absurd e h0, fun _ => ⟨rfl, rfl⟩, fun a e => by cases e⟩
theorem RrP.good {s : ByteArray} {w w' : World} {n : Int} {ws : List ByteArray} {q : Option Addr} {c : Nat} (hb : Below w.heap.size w w') (h : readErr s = 0) (h1 : n = lineN s) (h2 : ws = lineWs s) (hq : StrsAt w' q ws) (hf : PFrom w.heap.size q) : RrP s w (.returned (.agg #[.int .i64 n, .slice q ws.length c, .int .i64 0])) w' :=
  ⟨hb, n, ws, q, c, by rw [h], hq, fun _ => ⟨h1, h2⟩, fun e => absurd h e, hf⟩
/-- Three fresh cells, after calls. -/
structure T3 (w W : World) : Prop where
  c0 : W.cell? ⟨w.heap.size, 0, none⟩ = some (.int .i64 0)
  c1 : W.cell? ⟨w.heap.size, 1, none⟩ = some (.slice none 0 0)
  c2 : W.cell? ⟨w.heap.size, 2, none⟩ = some (.int .i64 0)
  fz : ∀ o, W.frozen? ⟨w.heap.size, o, none⟩ = false
  bel : Below w.heap.size w W
  lt : w.heap.size < W.heap.size
theorem T3.mk0 (w : World) : T3 w (w.alloc (.cells #[.int .i64 0, .slice none 0 0, .int .i64 0] 46)) :=
  ⟨nw_at w _ 46 0 _ rfl, nw_at w _ 46 1 _ rfl, nw_at w _ 46 2 _ rfl, fun o => frozen_new w _ _ o, below_alloc1 _ _, by simp⟩
theorem T3.next {w W W' : World} (h : T3 w W) (hb : Below W.heap.size W W') : T3 w W' :=
  ⟨(hb.cell (p := ⟨w.heap.size, 0, none⟩) h.lt).trans h.c0, (hb.cell (p := ⟨w.heap.size, 1, none⟩) h.lt).trans h.c1, (hb.cell (p := ⟨w.heap.size, 2, none⟩) h.lt).trans h.c2, fun o => (hb.frozen (p := ⟨w.heap.size, o, none⟩) h.lt).trans (h.fz o), h.bel.trans (hb.mono (Nat.le_of_lt h.lt)), Nat.lt_of_lt_of_le h.lt hb.size⟩
theorem T3.set {w W : World} (h : T3 w W) (x y z : Value) : Below w.heap.size w (((W.setCell ⟨w.heap.size, 0, none⟩ x).setCell ⟨w.heap.size, 1, none⟩ y).setCell ⟨w.heap.size, 2, none⟩ z) :=
  ((h.bel.setCell (p := ⟨w.heap.size, 0, none⟩) (Nat.le_refl _) _).setCell (p := ⟨w.heap.size, 1, none⟩) (Nat.le_refl _) _).setCell (p := ⟨w.heap.size, 2, none⟩) (Nat.le_refl _) _
theorem strs_set3 {W : World} {q : Option Addr} {vs : List ByteArray} {B : Nat} (h : StrsAt W q vs) (c0 : W.cell? ⟨B, 0, none⟩ = some (.int .i64 0)) (c1 : W.cell? ⟨B, 1, none⟩ = some (.slice none 0 0)) (c2 : W.cell? ⟨B, 2, none⟩ = some (.int .i64 0)) (x y z : Value) : StrsAt (((W.setCell ⟨B, 0, none⟩ x).setCell ⟨B, 1, none⟩ y).setCell ⟨B, 2, none⟩ z) q vs := by
  rcases h with h | ⟨b, o, e, hl, hc⟩
  · exact .inl h
  · refine .inr ⟨b, o, e, by simpa using hl, fun j hj => ?_⟩
    have hj2 := hc j hj
    have n0 : (⟨B, 0, none⟩ : Addr) ≠ ⟨b, o + j, none⟩ := fun e => by rw [← e, c0] at hj2; simp at hj2
    have n1 : (⟨B, 1, none⟩ : Addr) ≠ ⟨b, o + j, none⟩ := fun e => by rw [← e, c1] at hj2; simp at hj2
    have n2 : (⟨B, 2, none⟩ : Addr) ≠ ⟨b, o + j, none⟩ := fun e => by rw [← e, c2] at hj2; simp at hj2
    rw [World.cell?_setCell_other _ _ _ _ n2, World.cell?_setCell_other _ _ _ _ n1, World.cell?_setCell_other _ _ _ _ n0]
    exact hj2
theorem fld32 (a : ByteArray) (b : Int) (w : World) : Sem.run Tryz.prog (Instr.field 32 (.agg #[.string a, .int .i64 b]) 0) w = .ok (.string a) w := by kernel_rfl
set_option maxRecDepth 100000 in
set_option maxHeartbeats 4000000 in
theorem rRead (s : ByteArray) (w : World) (hs : s.size ≤ 1000000) : Calls Tryz.prog 34 #[.string s] w (RrP s w) := by
  have Z := Lib.hid (T3.mk0 w)
  have SH := Lib.hid (rShaped s (w.alloc (.cells #[.int .i64 0, .slice none 0 0, .int .i64 0] 46)) hs)
  go_enter Tryz.func34, Tryz.ntmps34
  go_wp2_with fail
  refine SH.out.mono ?_
  rintro e w1 ⟨hb, ⟨rfl, hno⟩ | ⟨n, ws, q, c, rfl, hS, hst, hpf⟩⟩
  · have Z1 := Lib.hid (Z.out.next hb)
    have HE : Hid (readErr s = 7) := readErr_no hno
    have c0 := cell_al Z1.out.c0 (.cells #[.int .i64 0, .slice none 0 0] 39)
    have c1 := cell_al Z1.out.c1 (.cells #[.int .i64 0, .slice none 0 0] 39)
    have c2 := cell_al Z1.out.c2 (.cells #[.int .i64 0, .slice none 0 0] 39)
    have Z2 := Lib.hid (Z1.out.next (below_alloc1 w1 (.cells #[.int .i64 0, .slice none 0 0] 39)))
    have f0 := Z2.out.fz 0
    have f1 := Z2.out.fz 1
    have f2 := Z2.out.fz 2
    clear SH hb hno
    go_wp2_with fail
    refine bodyPost_ret (v := .agg #[.int .i64 0, .slice none 0 0, .int .i64 7]) (by simp [results, Tryz.results34, go_sem, c0, c1, c2]) rfl (RrP.bad 7 (Z2.out.set _ _ _) HE.out (by decide))
  · obtain ⟨k1, k2, k3, -⟩ := shp_body hS
    have HPF : Hid (PFrom w.heap.size q) := fun a e => by have := hpf a e; rw [World.size_alloc] at this; exact Nat.le_trans (Nat.le_succ _) this
    clear hpf
    have HE := Lib.hid (readErr_shp hS)
    obtain ⟨l1, l2, l3, l4⟩ := lineErr_ok hS.1
    have hz6 : ∀ j, (ws.getD j ByteArray.empty).size ≤ maxLen := fun j => by
      rw [List.getD]
      cases hj : ws[j]? with
      | none => exact Nat.zero_le _
      | some z => have := wordsOk_size l4 z (List.mem_of_getElem? hj); show z.size ≤ maxLen; unfold maxLen; omega
    have Z1 := Lib.hid (Z.out.next hb)
    have Z2 := Lib.hid (Z1.out.next (below_alloc1 w1 (.cells #[.int .i64 n, .slice q ws.length c] 39)))
    have ST2 := Lib.hid (hst.below (below_alloc1 w1 (.cells #[.int .i64 n, .slice q ws.length c] 39)))
    have A2 := Lib.hid (K2.new w1 (.int .i64 n) (.slice q ws.length c) 39)
    have CW := rWrite n q c ws (w1.alloc (.cells #[.int .i64 n, .slice q ws.length c] 39)) (by unfold maxLen; omega) hz6 ST2.out
    rw [wrAgg, if_pos hS.1] at CW
    obtain ⟨T, hT⟩ : ∃ T, bs (lineT n ws) = T := ⟨_, rfl⟩
    rw [hT] at CW HE
    have DCW := Lib.hid CW
    have HK1 := Lib.hid k1
    have HK2 := Lib.hid k2
    have kf := fun W : World => fld32 T 0 W
    obtain ⟨N, hN⟩ : ∃ N, Hid (ws.length = N) := ⟨_, rfl⟩
    rw [hN.out] at A2 DCW Z2 ST2 ⊢
    clear SH hb hst hS k1 k2 k3 l1 l2 l3 l4 hz6 CW hT Z
    go_wp2_with fail
    refine DCW.out.mono ?_
    rintro e w2 ⟨rfl, hb⟩
    have Z3 := Lib.hid (Z2.out.next hb)
    have A3 := Lib.hid (A2.out.keep hb)
    have ST3 := Lib.hid (ST2.out.below hb)
    have c0 := Z3.out.c0
    have c1 := Z3.out.c1
    have c2 := Z3.out.c2
    have f0 := Z3.out.fz 0
    have f1 := Z3.out.fz 1
    have f2 := Z3.out.fz 2
    have y0 := A3.out.2.1
    have y1 := A3.out.2.2
    clear DCW hb A2 ST2 Z2
    by_cases he : T = s
    · have HR : Hid (readErr s = 0) := by rw [HE.out, if_pos he]; rfl
      have e1 : (T.toList == s.toList) = true := by rw [he]; simp
      have e2 : (T.toList != s.toList) = false := by rw [bne, e1]; rfl
      clear he HE
      go_wp2_with fail
      have fin := RrP.good (c := c) (Z3.out.set (.int .i64 n) (.slice q ws.length c) (.int .i64 0)) HR.out HK1.out.symm HK2.out.symm (strs_set3 ST3.out c0 c1 c2 (.int .i64 n) (.slice q ws.length c) (.int .i64 0)) HPF.out
      rw [hN.out] at fin
      refine bodyPost_ret (v := .agg #[.int .i64 n, .slice q N c, .int .i64 0]) (by simp [results, Tryz.results34, go_sem, c0, c1, c2]) rfl ?_
      exact fin
    · have HR : Hid (readErr s = 11) := by rw [HE.out, if_neg he]; rfl
      have e1 : (T.toList == s.toList) = false := Bool.eq_false_iff.2 (fun e => he (toList_eq e))
      have e2 : (T.toList != s.toList) = true := by rw [bne, e1]; rfl
      clear he HE
      go_wp2_with fail
      refine bodyPost_ret (v := .agg #[.int .i64 0, .slice none 0 0, .int .i64 11]) (by simp [results, Tryz.results34, go_sem, c0, c1, c2]) rfl (RrP.bad 11 ?_ HR.out (by decide))
      exact Z3.out.set _ _ _
end Go.Proofs.YtmfhpddeclggfaaGreatDoor
