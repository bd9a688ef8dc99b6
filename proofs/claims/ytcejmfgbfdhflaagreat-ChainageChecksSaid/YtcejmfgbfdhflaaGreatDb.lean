import Derived.Test.YtcejmfgbfdhflaaGreatDa
import Derived.WalkKit
import Derived.LoopTactic
import Derived.WalkSpells
import Derived.WalkLawsBesides
import Derived.Lib.Hide
import Derived.BigQuiet
import Derived.IntWalk
import Derived.Deep.DeepMust
import Derived.WalkSmall
import Derived.StillTailTactics
import Derived.Deep.RegionLaw
import Derived.Deep.RegionHeld3
import Derived.Deep.QuietTactic
namespace Go.Proofs.YtcejmfgbfdhflaaGreat
open Go.RowKit Go.Shelf Go.BigFrame Go.Sort
attribute [local go_sem] World.cell?_alloc_some
/-- A measure. -/
structure Ms where
  ch : Int
  year : Int
  chains : Int
  links : Int
  slack : Int
deriving DecidableEq
abbrev Ms.v (m : Ms) : Value := .agg #[.int .i64 m.ch, .int .i64 m.year, .int .i64 m.chains, .int .i64 m.links, .int .i64 m.slack]
def okMs (cs : List Ch) (m : Ms) : Bool := (chF cs m.ch).isSome && (inB (chOr cs m.ch).year 4000 m.year && (inB 0 100000 m.chains && (inB 0 99 m.links && inB 0 100000 m.slack)))
set_option maxRecDepth 100000 in
set_option maxHeartbeats 3200000 in
theorem validMeasure_any (x : WA) (p : Ms) (w : World) (h : x.At w) : Calls Tryz.prog 126 #[x.v, p.v] w fun e w' => e = .returned (.bool (okMs x.cs p)) ∧ Below w.heap.size w w' := by
  have C0 := fun W (hb : Below w.heap.size w W) => chainOf_any x.q1 x.c1 x.cs p.ch W h.n1 (h.cs.keep hb)
  obtain ⟨c, hc⟩ : ∃ c, chOr x.cs p.ch = c := ⟨_, rfl⟩
  have C1 := fun W => yearsOf_any c W
  have C2 := fun W => within_any c.year 4000 p.year W
  have C3 := fun W => within_any 0 100000 p.chains W
  have C4 := fun W => within_any 0 99 p.links W
  have C5 := fun W => within_any 0 100000 p.slack W
  obtain ⟨x0, h0⟩ : ∃ b, (chF x.cs p.ch).isSome = b := ⟨_, rfl⟩
  obtain ⟨x1, h1⟩ : ∃ b, inB c.year 4000 p.year = b := ⟨_, rfl⟩
  obtain ⟨x2, h2⟩ : ∃ b, inB 0 100000 p.chains = b := ⟨_, rfl⟩
  obtain ⟨x3, h3⟩ : ∃ b, inB 0 99 p.links = b := ⟨_, rfl⟩
  obtain ⟨x4, h4⟩ : ∃ b, inB 0 100000 p.slack = b := ⟨_, rfl⟩
  rw [show okMs x.cs p = (x0 && (x1 && (x2 && (x3 && x4)))) from by rw [okMs, hc, h0, h1, h2, h3, h4]]
  simp only [h0, hc] at C0
  simp only [h1] at C2
  simp only [h2] at C3
  simp only [h3] at C4
  simp only [h4] at C5
  clear h0 h1 h2 h3 h4 hc h
  obtain ⟨cs, ps, rs, q1, q2, q3, c1, c2, c3⟩ := x
  obtain ⟨m1, m2, m3, m4, m5⟩ := p
  simp only [WA.v, Ms.v] at *
  go_enter Tryz.func126, Tryz.ntmps126
  go_wp2_with fail
  obtain ⟨W0, hW0⟩ : ∃ W0, ((w).alloc (.cells #[.slice q1 cs.length c1, .slice q2 ps.length c2, .slice q3 rs.length c3] 26)).alloc (.cells #[.int .i64 (m1), .int .i64 (m2), .int .i64 (m3), .int .i64 (m4), .int .i64 (m5)] 73) = W0 := ⟨_, rfl⟩
  have S0 : St w W0 [(w.heap.size + 1, 0, .int .i64 (m1)), (w.heap.size + 1, 1, .int .i64 (m2)), (w.heap.size + 1, 2, .int .i64 (m3)), (w.heap.size + 1, 3, .int .i64 (m4)), (w.heap.size + 1, 4, .int .i64 (m5)), (w.heap.size, 0, .slice q1 cs.length c1), (w.heap.size, 1, .slice q2 ps.length c2), (w.heap.size, 2, .slice q3 rs.length c3)] := by rw [← hW0]; exact (((St.nil w)).box #[.slice q1 cs.length c1, .slice q2 ps.length c2, .slice q3 rs.length c3] 26 (w.heap.size) (by simp)).box #[.int .i64 (m1), .int .i64 (m2), .int .i64 (m3), .int .i64 (m4), .int .i64 (m5)] 73 (w.heap.size + 1) (by simp)
  rw [hW0]
  clear hW0
  obtain ⟨C, hC0, HC, LC, BC, hne⟩ := cls S0
  haveI := hne
  obtain ⟨c0, rfl⟩ : ∃ n : Wd C, W0 = n.w := ⟨⟨_, hC0⟩, rfl⟩
  have fC0 : ∀ n : Wd C, n.w.cell? ⟨w.heap.size + 1, 0, none⟩ = some (.int .i64 (m1)) := fun n => (LC.out n).1.2.1
  have fC1 : ∀ n : Wd C, n.w.cell? ⟨w.heap.size + 1, 1, none⟩ = some (.int .i64 (m2)) := fun n => (LC.out n).2.1.2.1
  have fC2 : ∀ n : Wd C, n.w.cell? ⟨w.heap.size + 1, 2, none⟩ = some (.int .i64 (m3)) := fun n => (LC.out n).2.2.1.2.1
  have fC3 : ∀ n : Wd C, n.w.cell? ⟨w.heap.size + 1, 3, none⟩ = some (.int .i64 (m4)) := fun n => (LC.out n).2.2.2.1.2.1
  have fC4 : ∀ n : Wd C, n.w.cell? ⟨w.heap.size + 1, 4, none⟩ = some (.int .i64 (m5)) := fun n => (LC.out n).2.2.2.2.1.2.1
  have fC5 : ∀ n : Wd C, n.w.cell? ⟨w.heap.size, 0, none⟩ = some (.slice q1 cs.length c1) := fun n => (LC.out n).2.2.2.2.2.1.2.1
  have fC6 : ∀ n : Wd C, n.w.cell? ⟨w.heap.size, 1, none⟩ = some (.slice q2 ps.length c2) := fun n => (LC.out n).2.2.2.2.2.2.1.2.1
  have fC7 : ∀ n : Wd C, n.w.cell? ⟨w.heap.size, 2, none⟩ = some (.slice q3 rs.length c3) := fun n => (LC.out n).2.2.2.2.2.2.2.1.2.1
  clear S0 hC0
  go_wp2_with (go_at_call 112; refine (C0 _ (BC.out _)).mono ?_; rintro e w1 ⟨rfl, hg⟩; obtain ⟨m, rfl⟩ : ∃ m : Wd C, w1 = m.w := ⟨⟨_, HC.out _ _ (Wd.h _) hg⟩, rfl⟩; clear hg C0)
  obtain ⟨W0, hW0⟩ : ∃ W0, (m.w).alloc (.cells #[.int .i64 c.id, .int .i64 c.year, .int .i64 c.lo, .int .i64 c.hi, .int .i64 c.wear] 90) = W0 := ⟨_, rfl⟩
  have S0 : St w W0 [(m.w.heap.size, 0, .int .i64 c.id), (m.w.heap.size, 1, .int .i64 c.year), (m.w.heap.size, 2, .int .i64 c.lo), (m.w.heap.size, 3, .int .i64 c.hi), (m.w.heap.size, 4, .int .i64 c.wear), (w.heap.size + 1, 0, .int .i64 (m1)), (w.heap.size + 1, 1, .int .i64 (m2)), (w.heap.size + 1, 2, .int .i64 (m3)), (w.heap.size + 1, 3, .int .i64 (m4)), (w.heap.size + 1, 4, .int .i64 (m5)), (w.heap.size, 0, .slice q1 cs.length c1), (w.heap.size, 1, .slice q2 ps.length c2), (w.heap.size, 2, .slice q3 rs.length c3)] := by rw [← hW0]; exact ((⟨BC.out m, LC.out m⟩ : St w m.w _)).box #[.int .i64 c.id, .int .i64 c.year, .int .i64 c.lo, .int .i64 c.hi, .int .i64 c.wear] 90 (m.w.heap.size) (by simp)
  rw [hW0]
  clear hW0
  obtain ⟨kD, hkk⟩ : ∃ k, m.w.heap.size = k := ⟨_, rfl⟩
  have gkD : w.heap.size ≤ kD := by rw [← hkk]; exact (BC.out m).size
  rw [hkk] at S0 ⊢
  clear hkk
  obtain ⟨D, hC0, HD, LD, BD, hne⟩ := cls S0
  haveI := hne
  obtain ⟨d0, rfl⟩ : ∃ n : Wd D, W0 = n.w := ⟨⟨_, hC0⟩, rfl⟩
  have fD0 : ∀ n : Wd D, n.w.cell? ⟨kD, 0, none⟩ = some (.int .i64 c.id) := fun n => (LD.out n).1.2.1
  have fD1 : ∀ n : Wd D, n.w.cell? ⟨kD, 1, none⟩ = some (.int .i64 c.year) := fun n => (LD.out n).2.1.2.1
  have fD2 : ∀ n : Wd D, n.w.cell? ⟨kD, 2, none⟩ = some (.int .i64 c.lo) := fun n => (LD.out n).2.2.1.2.1
  have fD3 : ∀ n : Wd D, n.w.cell? ⟨kD, 3, none⟩ = some (.int .i64 c.hi) := fun n => (LD.out n).2.2.2.1.2.1
  have fD4 : ∀ n : Wd D, n.w.cell? ⟨kD, 4, none⟩ = some (.int .i64 c.wear) := fun n => (LD.out n).2.2.2.2.1.2.1
  have fD5 : ∀ n : Wd D, n.w.cell? ⟨w.heap.size + 1, 0, none⟩ = some (.int .i64 (m1)) := fun n => (LD.out n).2.2.2.2.2.1.2.1
  have fD6 : ∀ n : Wd D, n.w.cell? ⟨w.heap.size + 1, 1, none⟩ = some (.int .i64 (m2)) := fun n => (LD.out n).2.2.2.2.2.2.1.2.1
  have fD7 : ∀ n : Wd D, n.w.cell? ⟨w.heap.size + 1, 2, none⟩ = some (.int .i64 (m3)) := fun n => (LD.out n).2.2.2.2.2.2.2.1.2.1
  have fD8 : ∀ n : Wd D, n.w.cell? ⟨w.heap.size + 1, 3, none⟩ = some (.int .i64 (m4)) := fun n => (LD.out n).2.2.2.2.2.2.2.2.1.2.1
  have fD9 : ∀ n : Wd D, n.w.cell? ⟨w.heap.size + 1, 4, none⟩ = some (.int .i64 (m5)) := fun n => (LD.out n).2.2.2.2.2.2.2.2.2.1.2.1
  have fD10 : ∀ n : Wd D, n.w.cell? ⟨w.heap.size, 0, none⟩ = some (.slice q1 cs.length c1) := fun n => (LD.out n).2.2.2.2.2.2.2.2.2.2.1.2.1
  have fD11 : ∀ n : Wd D, n.w.cell? ⟨w.heap.size, 1, none⟩ = some (.slice q2 ps.length c2) := fun n => (LD.out n).2.2.2.2.2.2.2.2.2.2.2.1.2.1
  have fD12 : ∀ n : Wd D, n.w.cell? ⟨w.heap.size, 2, none⟩ = some (.slice q3 rs.length c3) := fun n => (LD.out n).2.2.2.2.2.2.2.2.2.2.2.2.1.2.1
  clear S0 hC0
  have D1 := cin HD fun W => Calls.be (C1 W)
  have D2 := cin HD fun W => Calls.be (C2 W)
  have D3 := cin HD fun W => Calls.be (C3 W)
  have D4 := cin HD fun W => Calls.be (C4 W)
  have D5 := cin HD fun W => Calls.be (C5 W)
  clear C1 C2 C3 C4 C5
  cases x0
  · skip
    refine wp_region_in D (HD.out _ _ (Wd.h _) (below_dr _)) (by kernel_rfl) (by kernel_rfl) ?_
    repeat (go_big_quiet_step (first | with_reducible exact (D1 _).out))
    refine wpQuiet_nil ?_
    intro wx hwx
    obtain ⟨n, rfl⟩ : ∃ n : Wd D, wx = n.w := ⟨⟨wx, hwx⟩, rfl⟩
    clear hwx
    go_wp2_with fail
    go_ret
    exact ⟨rfl, BD.out _⟩
  cases x1
  · skip
    refine wp_region_in D (HD.out _ _ (Wd.h _) (below_dr _)) (by kernel_rfl) (by kernel_rfl) ?_
    repeat (go_big_quiet_step (first | with_reducible exact (D1 _).out | with_reducible exact (D2 _).out))
    refine wpQuiet_nil ?_
    intro wx hwx
    obtain ⟨n, rfl⟩ : ∃ n : Wd D, wx = n.w := ⟨⟨wx, hwx⟩, rfl⟩
    clear hwx
    go_wp2_with fail
    go_ret
    exact ⟨rfl, BD.out _⟩
  cases x2
  · skip
    refine wp_region_in D (HD.out _ _ (Wd.h _) (below_dr _)) (by kernel_rfl) (by kernel_rfl) ?_
    repeat (go_big_quiet_step (first | with_reducible exact (D1 _).out | with_reducible exact (D2 _).out | with_reducible exact (D3 _).out))
    refine wpQuiet_nil ?_
    intro wx hwx
    obtain ⟨n, rfl⟩ : ∃ n : Wd D, wx = n.w := ⟨⟨wx, hwx⟩, rfl⟩
    clear hwx
    go_wp2_with fail
    go_ret
    exact ⟨rfl, BD.out _⟩
  cases x3
  · skip
    refine wp_region_in D (HD.out _ _ (Wd.h _) (below_dr _)) (by kernel_rfl) (by kernel_rfl) ?_
    repeat (go_big_quiet_step (first | with_reducible exact (D1 _).out | with_reducible exact (D2 _).out | with_reducible exact (D3 _).out | with_reducible exact (D4 _).out))
    refine wpQuiet_nil ?_
    intro wx hwx
    obtain ⟨n, rfl⟩ : ∃ n : Wd D, wx = n.w := ⟨⟨wx, hwx⟩, rfl⟩
    clear hwx
    go_wp2_with fail
    go_ret
    exact ⟨rfl, BD.out _⟩
  · skip
    refine wp_region_in D (HD.out _ _ (Wd.h _) (below_dr _)) (by kernel_rfl) (by kernel_rfl) ?_
    repeat (go_big_quiet_step (first | with_reducible exact (D1 _).out | with_reducible exact (D2 _).out | with_reducible exact (D3 _).out | with_reducible exact (D4 _).out | with_reducible exact (D5 _).out))
    refine wpQuiet_nil ?_
    intro wx hwx
    obtain ⟨n, rfl⟩ : ∃ n : Wd D, wx = n.w := ⟨⟨wx, hwx⟩, rfl⟩
    clear hwx
    go_wp2_with fail
    go_ret
    exact ⟨rfl, BD.out _⟩
theorem mxs_ge : ∀ (l : List Int) (a : Int), a ≤ mxs a l
  | [], a => Int.le_refl a
  | x :: l, a => by
    have h : mxs a (x :: l) = mxs (max a x) l := rfl
    rw [h]
    exact Int.le_trans (Int.le_max_left a x) (mxs_ge l _)
theorem mns_le : ∀ (l : List Int) (a : Int), mns a l ≤ a
  | [], a => Int.le_refl a
  | x :: l, a => by
    have h : mns a (x :: l) = mns (min a x) l := rfl
    rw [h]
    exact Int.le_trans (mns_le l _) (Int.min_le_left a x)
theorem lg_bd {x : WA} {ch y : Int} (h : agE x ch y = 0) : (9000 ≤ lgLo x ch y ∧ lgLo x ch y ≤ 12000) ∧ (9000 ≤ lgHi x ch y ∧ lgHi x ch y ≤ 12000) := by
  obtain ⟨h1, h2, h3⟩ := spO_ok (agE_zero h).1
  obtain ⟨-, hw, ht⟩ := okS_iff.1 h1
  rw [lgLo, lgHi, if_pos h, if_pos h, lowS, highS]
  generalize spO x (chOr x.cs ch) y = s at *
  refine ⟨⟨mxs_ge _ _, ?_⟩, ?_, mns_le _ _⟩
  · rcases mxs_at (s.ths.map fun t => lowT s.wear t y) 9000 with e | e
    · rw [e]; decide
    · obtain ⟨t, hm, e2⟩ := List.mem_map.1 e
      rw [← e2]
      obtain ⟨k1, k2, k3, k4⟩ := okTh_iff.1 (ht t hm)
      have := mul_bd hw (v := max 0 (t.year - y)) (by omega)
      show t.lo - s.wear * max 0 (t.year - y) ≤ 12000
      omega
  · rcases mns_at (s.ths.map fun t => highT s.wear t y) 12000 with e | e
    · rw [e]; decide
    · obtain ⟨t, hm, e2⟩ := List.mem_map.1 e
      rw [← e2]
      obtain ⟨k1, k2, k3, k4⟩ := okTh_iff.1 (ht t hm)
      have := mul_bd hw (v := max 0 (y - t.year)) (by omega)
      show 9000 ≤ t.hi + s.wear * max 0 (y - t.year)
      omega
theorem ds_lo {m3 m4 m5 a : Int} (h3 : 0 ≤ m3 ∧ m3 ≤ 100000) (h4 : 0 ≤ m4 ∧ m4 ≤ 99) (h5 : 0 ≤ m5 ∧ m5 ≤ 100000) (ha : 9000 ≤ a ∧ a ≤ 12000) :
    wrap64 ((wrap64 (max 0 (100 * m3 + m4 - m5) * a)).tdiv 10000) = max 0 (100 * m3 + m4 - m5) * a / 10000 := by
  have hm : 0 ≤ max 0 (100 * m3 + m4 - m5) * a ∧ max 0 (100 * m3 + m4 - m5) * a ≤ 10000099 * 12000 :=
    ⟨Int.mul_nonneg (by omega) (by omega), Int.mul_le_mul (by omega) (by omega) (by omega) (by decide)⟩
  rw [w64 (n := max 0 (100 * m3 + m4 - m5) * a) (by omega), Int.tdiv_eq_ediv_of_nonneg hm.1, w64 (by omega)]
theorem ds_hi {m3 m4 m5 b : Int} (h3 : 0 ≤ m3 ∧ m3 ≤ 100000) (h4 : 0 ≤ m4 ∧ m4 ≤ 99) (h5 : 0 ≤ m5 ∧ m5 ≤ 100000) (hb : 9000 ≤ b ∧ b ≤ 12000) :
    wrap64 ((wrap64 (wrap64 (wrap64 ((100 * m3 + m4 + m5) * b) + 10000) - 1)).tdiv 10000) = ((100 * m3 + m4 + m5) * b + 9999) / 10000 := by
  have hm : 0 ≤ (100 * m3 + m4 + m5) * b ∧ (100 * m3 + m4 + m5) * b ≤ 10100099 * 12000 :=
    ⟨Int.mul_nonneg (by omega) (by omega), Int.mul_le_mul (by omega) (by omega) (by omega) (by decide)⟩
  rw [w64 (n := (100 * m3 + m4 + m5) * b) (by omega), w64 (n := (100 * m3 + m4 + m5) * b + 10000) (by omega), w64 (n := (100 * m3 + m4 + m5) * b + 10000 - 1) (by omega), Int.tdiv_eq_ediv_of_nonneg (by omega), w64 (by omega)]
  congr 1; omega
/-- The error of Distance. -/
def dsE (x : WA) (m : Ms) : Int := if chk x ≠ 0 then chk x else if okMs x.cs m = false then 1 else agE x m.ch m.year
def lkN (m : Ms) : Int := 100 * m.chains + m.links
def dsLo (x : WA) (m : Ms) : Int := if dsE x m = 0 then max 0 (lkN m - m.slack) * lgLo x m.ch m.year / 10000 else 0
def dsHi (x : WA) (m : Ms) : Int := if dsE x m = 0 then ((lkN m + m.slack) * lgHi x m.ch m.year + 9999) / 10000 else 0
set_option maxRecDepth 100000 in
set_option maxHeartbeats 6400000 in
theorem Distance_any (x : WA) (m : Ms) (w : World) (h : x.At w) :
    Calls Tryz.prog 49 #[x.v, m.v] w fun e w' => e = .returned (.tuple #[spv (dsLo x m) (dsHi x m), .int .i64 (dsE x m)]) ∧ Below w.heap.size w w' := by
  have K1 := fun W (hb : Below w.heap.size w W) => Check_any x W (h.keep hb)
  have K2 := fun W (hb : Below w.heap.size w W) => validMeasure_any x m W (h.keep hb)
  have K3 := fun W (hb : Below w.heap.size w W) => Long_any x m.ch m.year W (h.keep hb)
  obtain ⟨A, hA⟩ : ∃ A, dsLo x m = A := ⟨_, rfl⟩
  obtain ⟨B1, hB1⟩ : ∃ B, dsHi x m = B := ⟨_, rfl⟩
  obtain ⟨E, hE⟩ : ∃ E, dsE x m = E := ⟨_, rfl⟩
  rw [hA, hB1, hE]
  have HM : Hid (okMs x.cs m = true → (0 ≤ m.chains ∧ m.chains ≤ 100000) ∧ (0 ≤ m.links ∧ m.links ≤ 99) ∧ 0 ≤ m.slack ∧ m.slack ≤ 100000) := fun e => by
    unfold okMs at e
    simp only [Bool.and_eq_true, inB_iff] at e
    exact ⟨e.2.2.1, e.2.2.2.1, e.2.2.2.2⟩
  have HLG : Hid (agE x m.ch m.year = 0 → (9000 ≤ lgLo x m.ch m.year ∧ lgLo x m.ch m.year ≤ 12000) ∧ (9000 ≤ lgHi x m.ch m.year ∧ lgHi x m.ch m.year ≤ 12000)) := lg_bd
  unfold dsLo at hA
  unfold dsHi at hB1
  unfold dsE at hE
  obtain ⟨k, hk⟩ : ∃ k, chk x = k := ⟨_, rfl⟩
  obtain ⟨z, hz⟩ : ∃ z, okMs x.cs m = z := ⟨_, rfl⟩
  obtain ⟨g, hg⟩ : ∃ g, agE x m.ch m.year = g := ⟨_, rfl⟩
  obtain ⟨a, ha⟩ : ∃ a, lgLo x m.ch m.year = a := ⟨_, rfl⟩
  obtain ⟨b, hb⟩ : ∃ b, lgHi x m.ch m.year = b := ⟨_, rfl⟩
  rw [ha, hg] at HLG
  rw [hb] at HLG
  rw [show dsE x m = E from hE, ha] at hA
  rw [show dsE x m = E from hE, hb] at hB1
  rw [hk, hz, hg] at hE
  rw [hz] at HM
  simp only [hk] at K1
  simp only [hz] at K2
  simp only [ha, hb, hg] at K3
  have HE := Lib.hid hE
  have HA := Lib.hid hA
  have HB1 := Lib.hid hB1
  clear h hk hz hg ha hb hE hA hB1
  obtain ⟨cs, ps, rs, q1, q2, q3, c1, c2, c3⟩ := x
  obtain ⟨m1, m2, m3, m4, m5⟩ := m
  simp only [WA.v, Ms.v, lkN] at *
  go_enter Tryz.func49, Tryz.ntmps49
  go_wp2_with fail
  obtain ⟨W0, hW0⟩ : ∃ W0, (((w).alloc (.cells #[.slice q1 cs.length c1, .slice q2 ps.length c2, .slice q3 rs.length c3] 26)).alloc (.cells #[.int .i64 (m1), .int .i64 (m2), .int .i64 (m3), .int .i64 (m4), .int .i64 (m5)] 73)).alloc (.cells #[.int .i64 0, .int .i64 0] 30) = W0 := ⟨_, rfl⟩
  have S0 : St w W0 [(w.heap.size + 1 + 1, 0, .int .i64 0), (w.heap.size + 1 + 1, 1, .int .i64 0), (w.heap.size + 1, 0, .int .i64 (m1)), (w.heap.size + 1, 1, .int .i64 (m2)), (w.heap.size + 1, 2, .int .i64 (m3)), (w.heap.size + 1, 3, .int .i64 (m4)), (w.heap.size + 1, 4, .int .i64 (m5)), (w.heap.size, 0, .slice q1 cs.length c1), (w.heap.size, 1, .slice q2 ps.length c2), (w.heap.size, 2, .slice q3 rs.length c3)] := by rw [← hW0]; exact ((((St.nil w)).box #[.slice q1 cs.length c1, .slice q2 ps.length c2, .slice q3 rs.length c3] 26 (w.heap.size) (by simp)).box #[.int .i64 (m1), .int .i64 (m2), .int .i64 (m3), .int .i64 (m4), .int .i64 (m5)] 73 (w.heap.size + 1) (by simp)).box #[.int .i64 0, .int .i64 0] 30 (w.heap.size + 1 + 1) (by simp)
  rw [hW0]
  clear hW0
  obtain ⟨C, hC0, HC, LC, BC, hne⟩ := cls S0
  haveI := hne
  obtain ⟨c0, rfl⟩ : ∃ n : Wd C, W0 = n.w := ⟨⟨_, hC0⟩, rfl⟩
  have fC0 : ∀ n : Wd C, n.w.cell? ⟨w.heap.size + 1 + 1, 0, none⟩ = some (.int .i64 0) := fun n => (LC.out n).1.2.1
  have zC0 : ∀ n : Wd C, n.w.frozen? ⟨w.heap.size + 1 + 1, 0, none⟩ = false := fun n => (LC.out n).1.2.2
  have fC1 : ∀ n : Wd C, n.w.cell? ⟨w.heap.size + 1 + 1, 1, none⟩ = some (.int .i64 0) := fun n => (LC.out n).2.1.2.1
  have zC1 : ∀ n : Wd C, n.w.frozen? ⟨w.heap.size + 1 + 1, 1, none⟩ = false := fun n => (LC.out n).2.1.2.2
  have fC2 : ∀ n : Wd C, n.w.cell? ⟨w.heap.size + 1, 0, none⟩ = some (.int .i64 (m1)) := fun n => (LC.out n).2.2.1.2.1
  have fC3 : ∀ n : Wd C, n.w.cell? ⟨w.heap.size + 1, 1, none⟩ = some (.int .i64 (m2)) := fun n => (LC.out n).2.2.2.1.2.1
  have fC4 : ∀ n : Wd C, n.w.cell? ⟨w.heap.size + 1, 2, none⟩ = some (.int .i64 (m3)) := fun n => (LC.out n).2.2.2.2.1.2.1
  have fC5 : ∀ n : Wd C, n.w.cell? ⟨w.heap.size + 1, 3, none⟩ = some (.int .i64 (m4)) := fun n => (LC.out n).2.2.2.2.2.1.2.1
  have fC6 : ∀ n : Wd C, n.w.cell? ⟨w.heap.size + 1, 4, none⟩ = some (.int .i64 (m5)) := fun n => (LC.out n).2.2.2.2.2.2.1.2.1
  have fC7 : ∀ n : Wd C, n.w.cell? ⟨w.heap.size, 0, none⟩ = some (.slice q1 cs.length c1) := fun n => (LC.out n).2.2.2.2.2.2.2.1.2.1
  have fC8 : ∀ n : Wd C, n.w.cell? ⟨w.heap.size, 1, none⟩ = some (.slice q2 ps.length c2) := fun n => (LC.out n).2.2.2.2.2.2.2.2.1.2.1
  have fC9 : ∀ n : Wd C, n.w.cell? ⟨w.heap.size, 2, none⟩ = some (.slice q3 rs.length c3) := fun n => (LC.out n).2.2.2.2.2.2.2.2.2.1.2.1
  clear S0 hC0
  have D1 := cinL HC BC K1
  have D2 := cinL HC BC K2
  have D3 := cinL HC BC K3
  clear K1 K2 K3
  by_cases hk0 : k = 0
  · subst hk0
    rw [if_neg (by simp)] at HE
    cases z
    · rw [if_pos rfl] at HE
      obtain rfl : 1 = E := HE.out
      rw [if_neg (by decide)] at HA HB1
      obtain rfl : 0 = A := HA.out
      obtain rfl : 0 = B1 := HB1.out
      go_wp2_with (first | first | (go_at_call 23; with_reducible refine (D1 _).out.mono ?_; rintro e w' ⟨rfl, n, rfl⟩) | (go_at_call 126; with_reducible refine (D2 _).out.mono ?_; rintro e w' ⟨rfl, n, rfl⟩))
      refine bodyPost_ret (v := .tuple #[spv 0 0, .int .i64 1]) (by simp [results, Tryz.results49, go_sem, fC0, fC1]) rfl ⟨rfl, ?_⟩
      exact set2 (BC.out _) (by omega) _ _
    · rw [if_neg (by simp)] at HE
      obtain rfl : g = E := HE.out
      go_wp2_with (first | first | (go_at_call 23; with_reducible refine (D1 _).out.mono ?_; rintro e w' ⟨rfl, n, rfl⟩) | (go_at_call 126; with_reducible refine (D2 _).out.mono ?_; rintro e w' ⟨rfl, n, rfl⟩))
      refine (D3 _).out.mono ?_
      rintro e w' ⟨rfl, n, rfl⟩
      go_upto_region 7 with fail
      obtain ⟨W0, hW0⟩ : ∃ W0, (n.w).alloc (.cells #[.int .i64 a, .int .i64 b] 30) = W0 := ⟨_, rfl⟩
      have S0 : St w W0 [(n.w.heap.size, 0, .int .i64 a), (n.w.heap.size, 1, .int .i64 b), (w.heap.size + 1 + 1, 0, .int .i64 0), (w.heap.size + 1 + 1, 1, .int .i64 0), (w.heap.size + 1, 0, .int .i64 (m1)), (w.heap.size + 1, 1, .int .i64 (m2)), (w.heap.size + 1, 2, .int .i64 (m3)), (w.heap.size + 1, 3, .int .i64 (m4)), (w.heap.size + 1, 4, .int .i64 (m5)), (w.heap.size, 0, .slice q1 cs.length c1), (w.heap.size, 1, .slice q2 ps.length c2), (w.heap.size, 2, .slice q3 rs.length c3)] := by rw [← hW0]; exact ((⟨BC.out n, LC.out n⟩ : St w n.w _)).box #[.int .i64 a, .int .i64 b] 30 (n.w.heap.size) (by simp)
      rw [hW0]
      clear hW0
      obtain ⟨kD, hkk⟩ : ∃ k, n.w.heap.size = k := ⟨_, rfl⟩
      have gkD : w.heap.size ≤ kD := by rw [← hkk]; exact (BC.out n).size
      rw [hkk] at S0 ⊢
      have eD1 : kD ≠ w.heap.size + 1 + 1 := by have h := (LC.out n).1.1; omega
      have dD1 : w.heap.size + 1 + 1 ≠ kD := Ne.symm eD1
      clear hkk
      obtain ⟨D, hC0, HD, LD, BD, hne⟩ := cls S0
      haveI := hne
      obtain ⟨d0, rfl⟩ : ∃ n : Wd D, W0 = n.w := ⟨⟨_, hC0⟩, rfl⟩
      have fD0 : ∀ n : Wd D, n.w.cell? ⟨kD, 0, none⟩ = some (.int .i64 a) := fun n => (LD.out n).1.2.1
      have fD1 : ∀ n : Wd D, n.w.cell? ⟨kD, 1, none⟩ = some (.int .i64 b) := fun n => (LD.out n).2.1.2.1
      have fD2 : ∀ n : Wd D, n.w.cell? ⟨w.heap.size + 1 + 1, 0, none⟩ = some (.int .i64 0) := fun n => (LD.out n).2.2.1.2.1
      have zD2 : ∀ n : Wd D, n.w.frozen? ⟨w.heap.size + 1 + 1, 0, none⟩ = false := fun n => (LD.out n).2.2.1.2.2
      have fD3 : ∀ n : Wd D, n.w.cell? ⟨w.heap.size + 1 + 1, 1, none⟩ = some (.int .i64 0) := fun n => (LD.out n).2.2.2.1.2.1
      have zD3 : ∀ n : Wd D, n.w.frozen? ⟨w.heap.size + 1 + 1, 1, none⟩ = false := fun n => (LD.out n).2.2.2.1.2.2
      have fD4 : ∀ n : Wd D, n.w.cell? ⟨w.heap.size + 1, 0, none⟩ = some (.int .i64 (m1)) := fun n => (LD.out n).2.2.2.2.1.2.1
      have fD5 : ∀ n : Wd D, n.w.cell? ⟨w.heap.size + 1, 1, none⟩ = some (.int .i64 (m2)) := fun n => (LD.out n).2.2.2.2.2.1.2.1
      have fD6 : ∀ n : Wd D, n.w.cell? ⟨w.heap.size + 1, 2, none⟩ = some (.int .i64 (m3)) := fun n => (LD.out n).2.2.2.2.2.2.1.2.1
      have fD7 : ∀ n : Wd D, n.w.cell? ⟨w.heap.size + 1, 3, none⟩ = some (.int .i64 (m4)) := fun n => (LD.out n).2.2.2.2.2.2.2.1.2.1
      have fD8 : ∀ n : Wd D, n.w.cell? ⟨w.heap.size + 1, 4, none⟩ = some (.int .i64 (m5)) := fun n => (LD.out n).2.2.2.2.2.2.2.2.1.2.1
      have fD9 : ∀ n : Wd D, n.w.cell? ⟨w.heap.size, 0, none⟩ = some (.slice q1 cs.length c1) := fun n => (LD.out n).2.2.2.2.2.2.2.2.2.1.2.1
      have fD10 : ∀ n : Wd D, n.w.cell? ⟨w.heap.size, 1, none⟩ = some (.slice q2 ps.length c2) := fun n => (LD.out n).2.2.2.2.2.2.2.2.2.2.1.2.1
      have fD11 : ∀ n : Wd D, n.w.cell? ⟨w.heap.size, 2, none⟩ = some (.slice q3 rs.length c3) := fun n => (LD.out n).2.2.2.2.2.2.2.2.2.2.2.1.2.1
      clear S0 hC0
      have hRD : w.heap.size + 1 + 1 < d0.w.heap.size := (LD.out d0).2.2.1.1
      clear D1 D2 D3
      by_cases hg0 : g = 0
      · subst hg0
        rw [if_pos rfl] at HA HB1
        obtain ⟨p1, p2, p3⟩ := HM.out (by first | rfl | trivial)
        obtain ⟨p4, p5⟩ := HLG.out (by first | rfl | trivial)
        have EL := Lib.hid (ds_lo p1 p2 p3 p4)
        have EH := Lib.hid (ds_hi p1 p2 p3 p5)
        obtain ⟨p1, p6⟩ := p1
        obtain ⟨p2, p7⟩ := p2
        obtain ⟨p3, p8⟩ := p3
        obtain ⟨p4, p9⟩ := p4
        obtain ⟨p5, p10⟩ := p5
        go_wp2_with fail
        refine bodyPost_ret (v := .tuple #[spv A B1, .int .i64 0]) (by simp [results, Tryz.results49, go_sem, fD2, fD3, EL.out, EH.out, HA.out, HB1.out]) rfl ⟨rfl, ?_⟩
        exact set2 (BD.out _) (by omega) _ _
      · have hb : (g != 0) = true := by simpa using hg0
        rw [if_neg hg0] at HA HB1
        obtain rfl : 0 = A := HA.out
        obtain rfl : 0 = B1 := HB1.out
        go_wp2_with fail
        refine bodyPost_ret (v := .tuple #[spv 0 0, .int .i64 g]) (by simp [results, Tryz.results49, go_sem, fD2, fD3]) rfl ⟨rfl, ?_⟩
        exact set2 (BD.out _) (by omega) _ _
  · have hb : (k != 0) = true := by simpa using hk0
    rw [if_pos hk0] at HE
    obtain rfl : k = E := HE.out
    rw [if_neg hk0] at HA HB1
    obtain rfl : 0 = A := HA.out
    obtain rfl : 0 = B1 := HB1.out
    go_wp2_with (first | first | (go_at_call 23; with_reducible refine (D1 _).out.mono ?_; rintro e w' ⟨rfl, n, rfl⟩))
    refine bodyPost_ret (v := .tuple #[spv 0 0, .int .i64 k]) (by simp [results, Tryz.results49, go_sem, fC0, fC1]) rfl ⟨rfl, ?_⟩
    exact set2 (BC.out _) (by omega) _ _
end Go.Proofs.YtcejmfgbfdhflaaGreat
