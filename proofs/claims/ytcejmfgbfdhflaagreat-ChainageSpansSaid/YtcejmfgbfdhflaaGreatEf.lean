import Derived.Test.YtcejmfgbfdhflaaGreatEe
import Derived.Test.YtcejmfgbfdhflaaGreatEd
import Derived.Test.YtcejmfgbfdhflaaGreatQe
import Derived.WalkKit
import Derived.LoopTactic
import Derived.WalkSpells
import Derived.WalkLawsBesides
import Derived.Lib.Hide
import Derived.BigQuiet
import Derived.IntWalk
import Derived.Deep.DeepMust
import Derived.WalkSmall
import Derived.StillTailTactics
import Derived.Deep.RegionLaw
import Derived.Deep.RegionHeld3
import Derived.Deep.QuietTactic
namespace Go.Proofs.YtcejmfgbfdhflaaGreat
open Go.RowKit Go.BigFrame Go.Sort
attribute [local go_sem] World.cell?_alloc_some
theorem getD_at {α : Type} {l : List α} {i : Nat} {d : α} (h : i < l.length) : l.getD i d = l[i] := by simp [List.getD, h]
theorem appHA {B : Nat} {v : Value} {l : List Th} {W : World} (hP : OTh W B v l) (hw : B ≤ W.heap.size) (t : Th) (hl : l.length ≤ 1000000) {ops : Array Oper} {rest : List Oper} {o : Oper} {a : Act} {Q : Exit → Act → World → Prop} (hgd : o.guard = none) (s z : Operand)
    (ho : o.op = .call { callee := .builtin .append, args := #[s, z], argTypes := #[123, 123] }) (hs : a.eval s = v) (hx : a.eval z = .slice (some ⟨W.heap.size, 0, none⟩) 1 1)
    (h : ∀ v' w', OTh w' B v' (l ++ [t]) → W.grownBy w' v.ownBlock → (v'.ownBlock = v.ownBlock ∨ v'.ownBlock = some (W.heap.size + 1)) → wpList Tryz.prog ops Q rest (a.put o.dst v') w') : wpList Tryz.prog ops Q (o :: rest) a (W.alloc (.cells #[.int .i64 t.num, .int .i64 t.year, .int .i64 t.lo, .int .i64 t.hi] 128)) := by
  obtain ⟨i0, hi, hz0, hz1, hz2⟩ := info_parts inf128
  refine wpList_append_own_at _ hgd s z 123 ho B 128 i0 (.agg #[.int .i64 0, .int .i64 0, .int .i64 0, .int .i64 0]) 4 32 Tryz.underlying123 hi hz0 hz1 hz2 rfl (by decide) v l.length (flat4 l) hs (hP.alloc _) ⟨W.heap.size, 0, none⟩ 1 1 (flat4 [t]) hx rfl ?_ flat4_one ?_ ?_ ?_ ?_
  · intro j u hu
    have hj : j < 4 := (List.getElem?_eq_some_iff.1 hu).1
    have := new_at W #[.int .i64 t.num, .int .i64 t.year, .int .i64 t.lo, .int .i64 t.hi] 128 j u hu
    rwa [show (⟨W.heap.size, 0, none⟩ : Addr).add j = ⟨W.heap.size, j, none⟩ from by simp [Addr.add]; omega]
  · unfold maxLen; omega
  · omega
  · simp; omega
  · intro v' w' ho' hg _ hb
    refine h v' w' ?_ ?_ (by simpa using hb)
    · show w'.ownsRow B 128 4 v' (l ++ [t]).length (flat4 (l ++ [t]))
      rw [List.length_append, flat4_app]; exact ho'
    · exact ⟨hg.os, hg.tape, hg.output, by have := hg.size; simp at this; omega, fun k hk hne => (hg.block k (by simp; omega) hne).trans (Below.heap_alloc W _ k hk)⟩
/-- A list of things that is read, and one that grows. -/
structure InI (w wr : World) (L : List (Nat × Nat × Value)) (B : Nat) (v : Value) (l : List Th) (b4 bi oi : Nat) (ts : List Th) (cs : List Int) : Prop where
  st : St w wr L
  own : OTh wr B v l
  t4 : ∀ (j : Nat) (t : Th), ts[j]? = some t → (v.ownBlock ≠ some b4 ∧ b4 < wr.heap.size) ∧ wr.cell? ⟨b4, j * 4, none⟩ = some (.int .i64 t.num) ∧ wr.cell? ⟨b4, j * 4 + 1, none⟩ = some (.int .i64 t.year) ∧ wr.cell? ⟨b4, j * 4 + 2, none⟩ = some (.int .i64 t.lo) ∧ wr.cell? ⟨b4, j * 4 + 3, none⟩ = some (.int .i64 t.hi)
  ci : ∀ (j : Nat) (c : Int), cs[j]? = some c → (v.ownBlock ≠ some bi ∧ bi < wr.heap.size) ∧ wr.cell? ⟨bi, oi + j, none⟩ = some (.int .i64 c)
theorem InI.keep {w wr W' : World} {L B v l b4 bi oi ts cs} (h : InI w wr L B v l b4 bi oi ts cs) (hb : Below wr.heap.size wr W') : InI w W' L B v l b4 bi oi ts cs := by
  refine ⟨h.st.next hb, ownsRow_keep h.own hb, fun j t hj => ?_, fun j c hj => ?_⟩
  · obtain ⟨⟨h0, h1⟩, h2⟩ := h.t4 j t hj
    rw [hb.cell (p := ⟨b4, j * 4, none⟩) h1, hb.cell (p := ⟨b4, j * 4 + 1, none⟩) h1, hb.cell (p := ⟨b4, j * 4 + 2, none⟩) h1, hb.cell (p := ⟨b4, j * 4 + 3, none⟩) h1]
    exact ⟨⟨h0, Nat.lt_of_lt_of_le h1 hb.size⟩, h2⟩
  · obtain ⟨⟨h0, h1⟩, h2⟩ := h.ci j c hj
    rw [hb.cell (p := ⟨bi, oi + j, none⟩) h1]
    exact ⟨⟨h0, Nat.lt_of_lt_of_le h1 hb.size⟩, h2⟩
theorem InI.app {w W W' : World} {L B v v' l b4 bi oi ts cs} {t : Th} (h : InI w W L B v l b4 bi oi ts cs) (hw : w.heap.size ≤ B) (hL : ∀ x ∈ L, x.1 < B) (hO : OTh W' B v' (l ++ [t])) (hg : W.grownBy W' v.ownBlock) (hb : v'.ownBlock = v.ownBlock ∨ v'.ownBlock = some (W.heap.size + 1)) :
    InI w W' L B v' (l ++ [t]) b4 bi oi ts cs := by
  refine ⟨h.st.grown h.own hg hw hL, hO, fun j t hj => ?_, fun j c hj => ?_⟩
  · obtain ⟨⟨h0, h1⟩, h2⟩ := h.t4 j t hj
    have e := fun o => World.cell?_of_block (a := ⟨b4, o, none⟩) (hg.block b4 h1 (fun e => h0 e.symm))
    rw [e, e, e, e]
    refine ⟨⟨?_, Nat.lt_of_lt_of_le h1 hg.size⟩, h2⟩
    rcases hb with e | e
    · rw [e]; exact h0
    · rw [e]; intro e2; injection e2 with e2; omega
  · obtain ⟨⟨h0, h1⟩, h2⟩ := h.ci j c hj
    have e := fun o => World.cell?_of_block (a := ⟨bi, o, none⟩) (hg.block bi h1 (fun e => h0 e.symm))
    rw [e]
    refine ⟨⟨?_, Nat.lt_of_lt_of_le h1 hg.size⟩, h2⟩
    rcases hb with e | e
    · rw [e]; exact h0
    · rw [e]; intro e2; injection e2 with e2; omega
theorem InI.cls {w wr : World} {L B v l b4 bi oi ts cs} (h : InI w wr L B v l b4 bi oi ts cs) : ∃ C : World → Prop, C wr ∧ Hid (∀ W W', C W → Below W.heap.size W W' → C W') ∧ Hid (∀ n : Wd C, InI w n.w L B v l b4 bi oi ts cs) ∧ Nonempty (Wd C) :=
  ⟨fun W => InI w W L B v l b4 bi oi ts cs, h, fun _ _ h hb => h.keep hb, fun n => n.h, ⟨⟨wr, h⟩⟩⟩
theorem InI.start {w W w2 : World} {L B v l} {v1 v2 : Value} {ts : List Th} {cs : List Int} (hS : St w W L) (hO : OTh W B v l) (hb : Below W.heap.size W w2) (h1 : OTh w2 (W.heap.size + 1) v1 ts) (h2 : OI w2 (W.heap.size + 1) v2 cs) :
    ∃ b4 bi oi c4 ci q4 qi, v1 = .slice q4 ts.length c4 ∧ v2 = .slice qi cs.length ci ∧ (ts ≠ [] → q4 = some ⟨b4, 0, none⟩) ∧ (cs ≠ [] → qi = some ⟨bi, oi, none⟩) ∧ InI w w2 L B v l b4 bi oi ts cs := by
  have hlo : ∀ {k e n v xs}, w2.ownsRow (W.heap.size + 1) e k v n xs → ∀ g, v.ownBlock = some g → W.heap.size + 1 ≤ g := fun h g e => ownBlock_lo h e
  have hvs : ∀ g, W.heap.size + 1 ≤ g → v.ownBlock ≠ some g := fun g hg e => by
    obtain ⟨-, ⟨rfl, -⟩ | ⟨g', cap', cur', rfl, -, hc', -⟩⟩ := hO
    · cases e
    · injection e with e
      have := (Array.getElem?_eq_some_iff.1 hc').1
      have e3 : g' = g := e
      omega
  obtain ⟨q4, c4, rfl, hT⟩ := OTh.shape h1
  obtain ⟨qi, ci, rfl, hI, -, -⟩ := OI.shape h2
  have hT2 : ∃ b4, (ts ≠ [] → q4 = some ⟨b4, 0, none⟩) ∧ ∀ (j : Nat) (t : Th), ts[j]? = some t → (v.ownBlock ≠ some b4 ∧ b4 < w2.heap.size) ∧ w2.cell? ⟨b4, j * 4, none⟩ = some (.int .i64 t.num) ∧ w2.cell? ⟨b4, j * 4 + 1, none⟩ = some (.int .i64 t.year) ∧ w2.cell? ⟨b4, j * 4 + 2, none⟩ = some (.int .i64 t.lo) ∧ w2.cell? ⟨b4, j * 4 + 3, none⟩ = some (.int .i64 t.hi) := by
    rcases hT with rfl | ⟨b, rfl, hb4, hc⟩
    · exact ⟨0, fun e => absurd rfl e, fun j t hj => by simp at hj⟩
    · exact ⟨b, fun _ => rfl, fun j t hj => ⟨⟨hvs b (hlo h1 b rfl), hb4⟩, hc j t hj⟩⟩
  have hI2 : ∃ bi oi, (cs ≠ [] → qi = some ⟨bi, oi, none⟩) ∧ ∀ (j : Nat) (c : Int), cs[j]? = some c → (v.ownBlock ≠ some bi ∧ bi < w2.heap.size) ∧ w2.cell? ⟨bi, oi + j, none⟩ = some (.int .i64 c) := by
    obtain ⟨-, ⟨h0, h3⟩ | ⟨g, cap, cur, hv, hB, hc, -⟩⟩ := h2
    · refine ⟨0, 0, fun e => absurd (List.length_eq_zero_iff.1 h3) e, fun j t hj => ?_⟩
      rw [List.length_eq_zero_iff.1 h3] at hj; simp at hj
    · injection hv with hq hn hcc
      rcases hI with rfl | ⟨b, o, rfl, hb4, hc2⟩
      · exact ⟨0, 0, fun e => absurd rfl e, fun j t hj => by simp at hj⟩
      · have e : b = g := by injection hq with hq; injection hq
        exact ⟨b, o, fun _ => rfl, fun j t hj => ⟨⟨hvs b (by omega), hb4⟩, hc2 j t hj⟩⟩
  obtain ⟨b4, e4, k4⟩ := hT2
  obtain ⟨bi, oi, ei, ki⟩ := hI2
  exact ⟨b4, bi, oi, c4, ci, q4, qi, rfl, rfl, e4, ei, hS.next hb, ownsRow_keep hO hb, k4, ki⟩
set_option maxRecDepth 100000 in
set_option maxHeartbeats 12800000 in
theorem In_any (x : WA) (c : Ch) (lo hi : Int) (w : World) (h : x.At w) :
    Calls Tryz.prog 120 #[x.v, c.v, spv lo hi] w fun e w' => (∃ v, e = .returned v ∧ OTh w' (w.heap.size + 1 + 1 + 1) v (inL x c lo hi)) ∧ Below w.heap.size w w' := by
  have K3 := fun W (hb : Below w.heap.size w W) => things_any x W (h.keep hb)
  have K4 := fun y W => Lib.hid (rin_any y lo hi W)
  have n2 := h.n2
  have n3 := h.n3
  obtain ⟨X, hX⟩ : ∃ X, x = X := ⟨_, rfl⟩
  have hT : thL X = x.ps.map Pf.th ++ x.rs.map Pf.th := by rw [← hX]; rfl
  have hC : chL X = x.ps.map (·.ch) ++ x.rs.map (·.ch) := by rw [← hX]; rfl
  rw [← hT, ← hC] at K3
  have hLT : (thL X).length = x.ps.length + x.rs.length := by rw [hT]; simp
  have hLC : (chL X).length = x.ps.length + x.rs.length := by rw [hC]; simp
  obtain ⟨N, hN⟩ : ∃ N, x.ps.length + x.rs.length = N := ⟨_, rfl⟩
  rw [hN] at hLT hLC
  have hN2 : N ≤ 2000 := by omega
  have hIL : inL x c lo hi = mkL c lo ++ inK X c lo hi N := by rw [← hX, ← hN]; rfl
  rw [hIL]
  have HST : Hid (∀ k, (h1 : k < N) → inK X c lo hi (k + 1) = inK X c lo hi k ++ (inP c lo hi ((thL X).getD k dTh, (chL X).getD k 0)).toList) := fun k h1 => by
    rw [inK_step (by omega) (by omega), getD_at (by omega), getD_at (by omega)]
  have H0 : Hid (inK X c lo hi 0 = []) := rfl
  have HLK : Hid (∀ k, (inK X c lo hi k).length ≤ N) := fun k => by
    unfold inK
    refine Nat.le_trans (List.length_filterMap_le _ _) ?_
    rw [List.length_take, List.length_zip]; omega
  have HL := Lib.hid (And.intro hLT hLC)
  clear h hX hT hC hLT hLC hN hIL n2 n3
  obtain ⟨F, hF⟩ : ∃ F, inK X c lo hi = F := ⟨_, rfl⟩
  rw [hF] at HST H0 HLK ⊢
  clear hF
  obtain ⟨TS, hTS⟩ : ∃ T, thL X = T := ⟨_, rfl⟩
  obtain ⟨CS, hCS⟩ : ∃ T, chL X = T := ⟨_, rfl⟩
  rw [hTS, hCS] at HST HL
  simp only [hTS, hCS] at K3
  clear hTS hCS X
  obtain ⟨M, hM⟩ : ∃ M, mkL c lo = M := ⟨_, rfl⟩
  rw [hM]
  have HMK := Lib.hid hM
  clear hM
  obtain ⟨cs, ps, rs, q1, q2, q3, c1, c2, c3⟩ := x
  obtain ⟨i1, i2, i3, i4, i5⟩ := c
  simp only [WA.v] at *
  go_enter Tryz.func120, Tryz.ntmps120
  go_upto_region 1 with fail
  obtain ⟨W0, hW0⟩ : ∃ W0, (((w).alloc (.cells #[.slice q1 cs.length c1, .slice q2 ps.length c2, .slice q3 rs.length c3] 26)).alloc (.cells #[.int .i64 (i1), .int .i64 (i2), .int .i64 (i3), .int .i64 (i4), .int .i64 (i5)] 90)).alloc (.cells #[.int .i64 (lo), .int .i64 (hi)] 30) = W0 := ⟨_, rfl⟩
  have S0 : St w W0 [(w.heap.size + 1 + 1, 0, .int .i64 (lo)), (w.heap.size + 1 + 1, 1, .int .i64 (hi)), (w.heap.size + 1, 0, .int .i64 (i1)), (w.heap.size + 1, 1, .int .i64 (i2)), (w.heap.size + 1, 2, .int .i64 (i3)), (w.heap.size + 1, 3, .int .i64 (i4)), (w.heap.size + 1, 4, .int .i64 (i5)), (w.heap.size, 0, .slice q1 cs.length c1), (w.heap.size, 1, .slice q2 ps.length c2), (w.heap.size, 2, .slice q3 rs.length c3)] := by rw [← hW0]; exact ((((St.nil w)).box #[.slice q1 cs.length c1, .slice q2 ps.length c2, .slice q3 rs.length c3] 26 (w.heap.size) (by simp)).box #[.int .i64 (i1), .int .i64 (i2), .int .i64 (i3), .int .i64 (i4), .int .i64 (i5)] 90 (w.heap.size + 1) (by simp)).box #[.int .i64 (lo), .int .i64 (hi)] 30 (w.heap.size + 1 + 1) (by simp)
  rw [hW0]
  clear hW0
  obtain ⟨C, hC0, HC, LC, BC, hne⟩ := cls S0
  haveI := hne
  obtain ⟨c0, rfl⟩ : ∃ n : Wd C, W0 = n.w := ⟨⟨_, hC0⟩, rfl⟩
  have fC0 : ∀ n : Wd C, n.w.cell? ⟨w.heap.size + 1 + 1, 0, none⟩ = some (.int .i64 (lo)) := fun n => (LC.out n).1.2.1
  have fC1 : ∀ n : Wd C, n.w.cell? ⟨w.heap.size + 1 + 1, 1, none⟩ = some (.int .i64 (hi)) := fun n => (LC.out n).2.1.2.1
  have fC2 : ∀ n : Wd C, n.w.cell? ⟨w.heap.size + 1, 0, none⟩ = some (.int .i64 (i1)) := fun n => (LC.out n).2.2.1.2.1
  have fC3 : ∀ n : Wd C, n.w.cell? ⟨w.heap.size + 1, 1, none⟩ = some (.int .i64 (i2)) := fun n => (LC.out n).2.2.2.1.2.1
  have fC4 : ∀ n : Wd C, n.w.cell? ⟨w.heap.size + 1, 2, none⟩ = some (.int .i64 (i3)) := fun n => (LC.out n).2.2.2.2.1.2.1
  have fC5 : ∀ n : Wd C, n.w.cell? ⟨w.heap.size + 1, 3, none⟩ = some (.int .i64 (i4)) := fun n => (LC.out n).2.2.2.2.2.1.2.1
  have fC6 : ∀ n : Wd C, n.w.cell? ⟨w.heap.size + 1, 4, none⟩ = some (.int .i64 (i5)) := fun n => (LC.out n).2.2.2.2.2.2.1.2.1
  have fC7 : ∀ n : Wd C, n.w.cell? ⟨w.heap.size, 0, none⟩ = some (.slice q1 cs.length c1) := fun n => (LC.out n).2.2.2.2.2.2.2.1.2.1
  have fC8 : ∀ n : Wd C, n.w.cell? ⟨w.heap.size, 1, none⟩ = some (.slice q2 ps.length c2) := fun n => (LC.out n).2.2.2.2.2.2.2.2.1.2.1
  have fC9 : ∀ n : Wd C, n.w.cell? ⟨w.heap.size, 2, none⟩ = some (.slice q3 rs.length c3) := fun n => (LC.out n).2.2.2.2.2.2.2.2.2.1.2.1
  clear S0 hC0
  by_cases hm : lo = i2
  · have hm' : (lo == i2) = true := by simpa using hm
    have hM : M = [⟨0, i2, i3, i4⟩] := HMK.out.symm.trans (if_pos hm)
    have HM2 := Lib.hid hM
    have HB := Lib.hid (BC.out c0)
    have HC3 := Lib.hid (LC.out c0).1.1
    clear hm hM
    go_upto_region 4 with (at_builtin; refine appHA (l := []) (B := w.heap.size + 1 + 1 + 1) (World.ownsRow_nil _ _ _ _) (Nat.succ_le_of_lt HC3.out) ⟨0, i2, i3, i4⟩ (by simp) rfl _ _ rfl rfl rfl ?_; intro v0 w1 hO hg hbk)
    have hO : OTh w1 (w.heap.size + 1 + 1 + 1) v0 M := by rw [HM2.out]; exact hO
    have hS : St w w1 [(w.heap.size + 1 + 1, 0, .int .i64 (lo)), (w.heap.size + 1 + 1, 1, .int .i64 (hi)), (w.heap.size + 1, 0, .int .i64 (i1)), (w.heap.size + 1, 1, .int .i64 (i2)), (w.heap.size + 1, 2, .int .i64 (i3)), (w.heap.size + 1, 3, .int .i64 (i4)), (w.heap.size + 1, 4, .int .i64 (i5)), (w.heap.size, 0, .slice q1 cs.length c1), (w.heap.size, 1, .slice q2 ps.length c2), (w.heap.size, 2, .slice q3 rs.length c3)] := St.grown ⟨BC.out c0, LC.out c0⟩ (World.ownsRow_nil c0.w (w.heap.size + 1 + 1 + 1) 128 4) hg (by omega) (by simp; try omega)
    have HM : Hid (M.length ≤ 1) := by rw [HM2.out]; exact Nat.le_refl 1
    clear hg hbk HB HC3 HM2 HMK
    have HO := Lib.hid hO
    have HS := Lib.hid hS
    obtain ⟨⟨z0, f0, -⟩, ⟨-, f1, -⟩, ⟨-, g0, -⟩, ⟨-, g1, -⟩, ⟨-, g2, -⟩, ⟨-, g3, -⟩, ⟨-, g4, -⟩, ⟨-, e0, -⟩, ⟨-, e1, -⟩, ⟨-, e2, -⟩, -⟩ := hS.c
    clear hO hS
    go_wp2_with fail
    refine (K3 _ HS.out.b).mono ?_
    rintro e w2 ⟨⟨v1, v2, rfl, hT, hI⟩, hb⟩
    have HII := InI.start HS.out HO.out hb hT hI
    clear hb hT hI HS HO f0 f1 g0 g1 g2 g3 g4 e0 e1 e2 z0 K3
    obtain ⟨b4, bi, oi, c4, ci, q4, qi, rfl, rfl, he4, hei, hII⟩ := HII
    have H4 := Lib.hid he4
    have HI := Lib.hid hei
    rw [HL.out.1, HL.out.2]
    clear he4 hei
    go_wp2_with fail
    go_loopw [7, 10] (fun v7 i wr => ∃ k : Nat, i = .int .i64 (k : Int) ∧ k ≤ N ∧ InI w wr [(w.heap.size + 1 + 1, 0, .int .i64 (lo)), (w.heap.size + 1 + 1, 1, .int .i64 (hi)), (w.heap.size + 1, 0, .int .i64 (i1)), (w.heap.size + 1, 1, .int .i64 (i2)), (w.heap.size + 1, 2, .int .i64 (i3)), (w.heap.size + 1, 3, .int .i64 (i4)), (w.heap.size + 1, 4, .int .i64 (i5)), (w.heap.size, 0, .slice q1 cs.length c1), (w.heap.size, 1, .slice q2 ps.length c2), (w.heap.size, 2, .slice q3 rs.length c3)] (w.heap.size + 1 + 1 + 1) v7 (M ++ F k) b4 bi oi TS CS) (fun v7 i wr => N - (intOf i).toNat)
    case atStart => exact ⟨0, rfl, Nat.zero_le _, by rw [H0.out, List.append_nil]; exact hII⟩
    case round =>
      clear hII
      obtain ⟨k, rfl, hk, hII⟩ := hrel
      have HII := Lib.hid hII
      by_cases hlt : k < N
      · have htl := getD_of (l := TS) (d := dTh) (i := k) (by have := HL.out.1; omega)
        have hcl := getD_of (l := CS) (d := 0) (i := k) (by have := HL.out.2; omega)
        have hst := HST.out k hlt
        obtain rfl := H4.out (fun e => by have := HL.out.1; rw [e] at this; simp at this; omega)
        obtain rfl := HI.out (fun e => by have := HL.out.2; rw [e] at this; simp at this; omega)
        obtain ⟨t, ht⟩ : ∃ t, TS.getD k dTh = t := ⟨_, rfl⟩
        obtain ⟨ch, hch⟩ : ∃ t, CS.getD k 0 = t := ⟨_, rfl⟩
        rw [ht] at htl hst
        rw [hch] at hcl hst
        have HSTK := Lib.hid hst
        obtain ⟨V, hV0, HV, LV, hneV⟩ := hII.cls
        haveI := hneV
        have t0 : ∀ n : Wd V, n.w.cell? ⟨b4, k * 4, none⟩ = some (.int .i64 t.num) := fun n => ((LV.out n).t4 k _ htl).2.1
        have t1 : ∀ n : Wd V, n.w.cell? ⟨b4, k * 4 + 1, none⟩ = some (.int .i64 t.year) := fun n => ((LV.out n).t4 k _ htl).2.2.1
        have t2 : ∀ n : Wd V, n.w.cell? ⟨b4, k * 4 + 2, none⟩ = some (.int .i64 t.lo) := fun n => ((LV.out n).t4 k _ htl).2.2.2.1
        have t3 : ∀ n : Wd V, n.w.cell? ⟨b4, k * 4 + 3, none⟩ = some (.int .i64 t.hi) := fun n => ((LV.out n).t4 k _ htl).2.2.2.2
        have t4 : ∀ n : Wd V, n.w.cell? ⟨bi, oi + k, none⟩ = some (.int .i64 ch) := fun n => ((LV.out n).ci k _ hcl).2
        have g0 : ∀ n : Wd V, n.w.cell? ⟨w.heap.size + 1 + 1, 0, none⟩ = some (.int .i64 lo) := fun n => (LV.out n).st.c.1.2.1
        have g1 : ∀ n : Wd V, n.w.cell? ⟨w.heap.size + 1 + 1, 1, none⟩ = some (.int .i64 hi) := fun n => (LV.out n).st.c.2.1.2.1
        have g2 : ∀ n : Wd V, n.w.cell? ⟨w.heap.size + 1, 0, none⟩ = some (.int .i64 i1) := fun n => (LV.out n).st.c.2.2.1.2.1
        have K5 := K4 t.year
        obtain ⟨z, hz⟩ : ∃ z, inB lo hi t.year = z := ⟨_, rfl⟩
        simp only [hz] at K5
        have HZ := Lib.hid hz
        have D1 := csame (C := V) (fun W => (K5 W).out)
        have hlt' : (k : Int) < (N : Int) := by omega
        obtain ⟨u0, hu0⟩ : ∃ n : Wd V, wr = n.w := ⟨⟨wr, hV0⟩, rfl⟩
        rw [hu0]
        clear htl hcl hst ht hch hII hV0 hu0 hz K5
        by_cases hc : ch = i1
        · have hc' : (ch == i1) = true := by simpa using hc
          cases z
          · have HN2 : Hid (F (k + 1) = F k) := by
              unfold Hid
              rw [HSTK.out, show inP ⟨i1, i2, i3, i4, i5⟩ lo hi (t, ch) = none from if_neg (fun e => by have := inB_iff.2 e.2; rw [HZ.out] at this; cases this)]; simp
            clear hc
            go_upto_region 8 with fail
            refine wp_region_in V (HV.out _ _ (Wd.h _) (below_dr _)) (by kernel_rfl) (by kernel_rfl) ?_
            repeat (go_big_quiet_step (first | with_reducible exact (D1 _).out))
            refine wpQuiet_nil ?_
            intro wx hwx
            obtain ⟨n, rfl⟩ : ∃ n : Wd V, wx = n.w := ⟨⟨wx, hwx⟩, rfl⟩
            clear hwx
            go_wp2_with fail
            go_roundw
            case rel => exact ⟨k + 1, by simp, hlt, by rw [HN2.out]; exact LV.out n⟩
            case measure => simp [intOf]; omega
          · have HN2 : Hid (M ++ F (k + 1) = M ++ F k ++ [t]) := by
              unfold Hid
              rw [HSTK.out, show inP ⟨i1, i2, i3, i4, i5⟩ lo hi (t, ch) = some t from if_pos ⟨hc, inB_iff.1 HZ.out⟩]; simp
            have HLN : Hid ((M ++ F k).length ≤ 1000000) := by have h1 := HLK.out k; have h2 := HM.out; unfold Hid; rw [List.length_append]; omega
            clear hc
            go_upto_region 8 with fail
            refine wp_region_in V (HV.out _ _ (Wd.h _) (below_dr _)) (by kernel_rfl) (by kernel_rfl) ?_
            repeat (go_big_quiet_step (first | with_reducible exact (D1 _).out))
            refine wpQuiet_nil ?_
            intro wx hwx
            obtain ⟨n, rfl⟩ : ∃ n : Wd V, wx = n.w := ⟨⟨wx, hwx⟩, rfl⟩
            clear hwx
            have HOn := Lib.hid (LV.out n).own
            have HBn : Hid (w.heap.size + 1 + 1 + 1 ≤ n.w.heap.size) := Nat.succ_le_of_lt (LV.out n).st.c.1.1
            go_wp2_with (at_builtin; refine appHA HOn.out HBn.out t HLN.out rfl _ _ rfl rfl rfl ?_; intro v' w3 hO3 hg3 hbk3)
            go_roundw
            case rel => exact ⟨k + 1, by simp, hlt, by rw [HN2.out]; exact (LV.out n).app (by omega) (by simp; try omega) hO3 hg3 hbk3⟩
            case measure => simp [intOf]; omega
        · have hc' : (ch == i1) = false := by simpa using hc
          have HN2 : Hid (F (k + 1) = F k) := by
            unfold Hid
            rw [HSTK.out, show inP ⟨i1, i2, i3, i4, i5⟩ lo hi (t, ch) = none from if_neg (fun e => hc e.1)]; simp
          clear hc
          go_upto_region 8 with fail
          refine wp_region_in V (HV.out _ _ (Wd.h _) (below_dr _)) (by kernel_rfl) (by kernel_rfl) ?_
          repeat (go_big_quiet_step (first | with_reducible exact (D1 _).out))
          refine wpQuiet_nil ?_
          intro wx hwx
          obtain ⟨n, rfl⟩ : ∃ n : Wd V, wx = n.w := ⟨⟨wx, hwx⟩, rfl⟩
          clear hwx
          go_wp2_with fail
          go_roundw
          case rel => exact ⟨k + 1, by simp, hlt, by rw [HN2.out]; exact LV.out n⟩
          case measure => simp [intOf]; omega
      · obtain rfl : k = N := by omega
        clear hII
        go_wp2_with fail
        go_ret
        exact ⟨⟨_, rfl, HII.out.own⟩, HII.out.st.b⟩
  · have hm' : (lo == i2) = false := by simpa using hm
    have hM : M = [] := HMK.out.symm.trans (if_neg hm)
    have HM2 := Lib.hid hM
    clear hm hM
    go_upto_region 4 with fail
    have hO : OTh c0.w (w.heap.size + 1 + 1 + 1) (.slice none 0 0) M := by rw [HM2.out]; exact World.ownsRow_nil _ _ _ _
    have hS : St w c0.w [(w.heap.size + 1 + 1, 0, .int .i64 (lo)), (w.heap.size + 1 + 1, 1, .int .i64 (hi)), (w.heap.size + 1, 0, .int .i64 (i1)), (w.heap.size + 1, 1, .int .i64 (i2)), (w.heap.size + 1, 2, .int .i64 (i3)), (w.heap.size + 1, 3, .int .i64 (i4)), (w.heap.size + 1, 4, .int .i64 (i5)), (w.heap.size, 0, .slice q1 cs.length c1), (w.heap.size, 1, .slice q2 ps.length c2), (w.heap.size, 2, .slice q3 rs.length c3)] := ⟨BC.out c0, LC.out c0⟩
    obtain ⟨v0, hv0⟩ : ∃ v0, (Value.slice none 0 0) = v0 := ⟨_, rfl⟩
    obtain ⟨w1, hw1⟩ : ∃ w1, c0.w = w1 := ⟨_, rfl⟩
    rw [hv0, hw1] at hO
    rw [hw1] at hS ⊢
    have HM : Hid (M.length ≤ 1) := by rw [HM2.out]; exact Nat.zero_le 1
    clear hw1 HM2 HMK
    have HO := Lib.hid hO
    have HS := Lib.hid hS
    obtain ⟨⟨z0, f0, -⟩, ⟨-, f1, -⟩, ⟨-, g0, -⟩, ⟨-, g1, -⟩, ⟨-, g2, -⟩, ⟨-, g3, -⟩, ⟨-, g4, -⟩, ⟨-, e0, -⟩, ⟨-, e1, -⟩, ⟨-, e2, -⟩, -⟩ := hS.c
    clear hO hS
    go_wp2_with fail
    refine (K3 _ HS.out.b).mono ?_
    rintro e w2 ⟨⟨v1, v2, rfl, hT, hI⟩, hb⟩
    have HII := InI.start HS.out HO.out hb hT hI
    clear hb hT hI HS HO f0 f1 g0 g1 g2 g3 g4 e0 e1 e2 z0 K3
    obtain ⟨b4, bi, oi, c4, ci, q4, qi, rfl, rfl, he4, hei, hII⟩ := HII
    have H4 := Lib.hid he4
    have HI := Lib.hid hei
    rw [HL.out.1, HL.out.2]
    clear he4 hei
    go_wp2_with fail
    go_loopw [7, 10] (fun v7 i wr => ∃ k : Nat, i = .int .i64 (k : Int) ∧ k ≤ N ∧ InI w wr [(w.heap.size + 1 + 1, 0, .int .i64 (lo)), (w.heap.size + 1 + 1, 1, .int .i64 (hi)), (w.heap.size + 1, 0, .int .i64 (i1)), (w.heap.size + 1, 1, .int .i64 (i2)), (w.heap.size + 1, 2, .int .i64 (i3)), (w.heap.size + 1, 3, .int .i64 (i4)), (w.heap.size + 1, 4, .int .i64 (i5)), (w.heap.size, 0, .slice q1 cs.length c1), (w.heap.size, 1, .slice q2 ps.length c2), (w.heap.size, 2, .slice q3 rs.length c3)] (w.heap.size + 1 + 1 + 1) v7 (M ++ F k) b4 bi oi TS CS) (fun v7 i wr => N - (intOf i).toNat)
    case atStart => exact ⟨0, rfl, Nat.zero_le _, by rw [H0.out, List.append_nil]; exact hII⟩
    case round =>
      clear hII
      obtain ⟨k, rfl, hk, hII⟩ := hrel
      have HII := Lib.hid hII
      by_cases hlt : k < N
      · have htl := getD_of (l := TS) (d := dTh) (i := k) (by have := HL.out.1; omega)
        have hcl := getD_of (l := CS) (d := 0) (i := k) (by have := HL.out.2; omega)
        have hst := HST.out k hlt
        obtain rfl := H4.out (fun e => by have := HL.out.1; rw [e] at this; simp at this; omega)
        obtain rfl := HI.out (fun e => by have := HL.out.2; rw [e] at this; simp at this; omega)
        obtain ⟨t, ht⟩ : ∃ t, TS.getD k dTh = t := ⟨_, rfl⟩
        obtain ⟨ch, hch⟩ : ∃ t, CS.getD k 0 = t := ⟨_, rfl⟩
        rw [ht] at htl hst
        rw [hch] at hcl hst
        have HSTK := Lib.hid hst
        obtain ⟨V, hV0, HV, LV, hneV⟩ := hII.cls
        haveI := hneV
        have t0 : ∀ n : Wd V, n.w.cell? ⟨b4, k * 4, none⟩ = some (.int .i64 t.num) := fun n => ((LV.out n).t4 k _ htl).2.1
        have t1 : ∀ n : Wd V, n.w.cell? ⟨b4, k * 4 + 1, none⟩ = some (.int .i64 t.year) := fun n => ((LV.out n).t4 k _ htl).2.2.1
        have t2 : ∀ n : Wd V, n.w.cell? ⟨b4, k * 4 + 2, none⟩ = some (.int .i64 t.lo) := fun n => ((LV.out n).t4 k _ htl).2.2.2.1
        have t3 : ∀ n : Wd V, n.w.cell? ⟨b4, k * 4 + 3, none⟩ = some (.int .i64 t.hi) := fun n => ((LV.out n).t4 k _ htl).2.2.2.2
        have t4 : ∀ n : Wd V, n.w.cell? ⟨bi, oi + k, none⟩ = some (.int .i64 ch) := fun n => ((LV.out n).ci k _ hcl).2
        have g0 : ∀ n : Wd V, n.w.cell? ⟨w.heap.size + 1 + 1, 0, none⟩ = some (.int .i64 lo) := fun n => (LV.out n).st.c.1.2.1
        have g1 : ∀ n : Wd V, n.w.cell? ⟨w.heap.size + 1 + 1, 1, none⟩ = some (.int .i64 hi) := fun n => (LV.out n).st.c.2.1.2.1
        have g2 : ∀ n : Wd V, n.w.cell? ⟨w.heap.size + 1, 0, none⟩ = some (.int .i64 i1) := fun n => (LV.out n).st.c.2.2.1.2.1
        have K5 := K4 t.year
        obtain ⟨z, hz⟩ : ∃ z, inB lo hi t.year = z := ⟨_, rfl⟩
        simp only [hz] at K5
        have HZ := Lib.hid hz
        have D1 := csame (C := V) (fun W => (K5 W).out)
        have hlt' : (k : Int) < (N : Int) := by omega
        obtain ⟨u0, hu0⟩ : ∃ n : Wd V, wr = n.w := ⟨⟨wr, hV0⟩, rfl⟩
        rw [hu0]
        clear htl hcl hst ht hch hII hV0 hu0 hz K5
        by_cases hc : ch = i1
        · have hc' : (ch == i1) = true := by simpa using hc
          cases z
          · have HN2 : Hid (F (k + 1) = F k) := by
              unfold Hid
              rw [HSTK.out, show inP ⟨i1, i2, i3, i4, i5⟩ lo hi (t, ch) = none from if_neg (fun e => by have := inB_iff.2 e.2; rw [HZ.out] at this; cases this)]; simp
            clear hc
            go_upto_region 8 with fail
            refine wp_region_in V (HV.out _ _ (Wd.h _) (below_dr _)) (by kernel_rfl) (by kernel_rfl) ?_
            repeat (go_big_quiet_step (first | with_reducible exact (D1 _).out))
            refine wpQuiet_nil ?_
            intro wx hwx
            obtain ⟨n, rfl⟩ : ∃ n : Wd V, wx = n.w := ⟨⟨wx, hwx⟩, rfl⟩
            clear hwx
            go_wp2_with fail
            go_roundw
            case rel => exact ⟨k + 1, by simp, hlt, by rw [HN2.out]; exact LV.out n⟩
            case measure => simp [intOf]; omega
          · have HN2 : Hid (M ++ F (k + 1) = M ++ F k ++ [t]) := by
              unfold Hid
              rw [HSTK.out, show inP ⟨i1, i2, i3, i4, i5⟩ lo hi (t, ch) = some t from if_pos ⟨hc, inB_iff.1 HZ.out⟩]; simp
            have HLN : Hid ((M ++ F k).length ≤ 1000000) := by have h1 := HLK.out k; have h2 := HM.out; unfold Hid; rw [List.length_append]; omega
            clear hc
            go_upto_region 8 with fail
            refine wp_region_in V (HV.out _ _ (Wd.h _) (below_dr _)) (by kernel_rfl) (by kernel_rfl) ?_
            repeat (go_big_quiet_step (first | with_reducible exact (D1 _).out))
            refine wpQuiet_nil ?_
            intro wx hwx
            obtain ⟨n, rfl⟩ : ∃ n : Wd V, wx = n.w := ⟨⟨wx, hwx⟩, rfl⟩
            clear hwx
            have HOn := Lib.hid (LV.out n).own
            have HBn : Hid (w.heap.size + 1 + 1 + 1 ≤ n.w.heap.size) := Nat.succ_le_of_lt (LV.out n).st.c.1.1
            go_wp2_with (at_builtin; refine appHA HOn.out HBn.out t HLN.out rfl _ _ rfl rfl rfl ?_; intro v' w3 hO3 hg3 hbk3)
            go_roundw
            case rel => exact ⟨k + 1, by simp, hlt, by rw [HN2.out]; exact (LV.out n).app (by omega) (by simp; try omega) hO3 hg3 hbk3⟩
            case measure => simp [intOf]; omega
        · have hc' : (ch == i1) = false := by simpa using hc
          have HN2 : Hid (F (k + 1) = F k) := by
            unfold Hid
            rw [HSTK.out, show inP ⟨i1, i2, i3, i4, i5⟩ lo hi (t, ch) = none from if_neg (fun e => hc e.1)]; simp
          clear hc
          go_upto_region 8 with fail
          refine wp_region_in V (HV.out _ _ (Wd.h _) (below_dr _)) (by kernel_rfl) (by kernel_rfl) ?_
          repeat (go_big_quiet_step (first | with_reducible exact (D1 _).out))
          refine wpQuiet_nil ?_
          intro wx hwx
          obtain ⟨n, rfl⟩ : ∃ n : Wd V, wx = n.w := ⟨⟨wx, hwx⟩, rfl⟩
          clear hwx
          go_wp2_with fail
          go_roundw
          case rel => exact ⟨k + 1, by simp, hlt, by rw [HN2.out]; exact LV.out n⟩
          case measure => simp [intOf]; omega
      · obtain rfl : k = N := by omega
        clear hII
        go_wp2_with fail
        go_ret
        exact ⟨⟨_, rfl, HII.out.own⟩, HII.out.st.b⟩
end Go.Proofs.YtcejmfgbfdhflaaGreat
