import Derived.Test.YtcejmfgbfdhflaaGreatDl
import Derived.WalkKit
import Derived.LoopTactic
import Derived.WalkSpells
import Derived.WalkLawsBesides
import Derived.Lib.Hide
import Derived.BigQuiet
import Derived.IntWalk
import Derived.Deep.DeepMust
import Derived.WalkSmall
import Derived.StillTailTactics
import Derived.Deep.RegionLaw
import Derived.Deep.RegionHeld3
import Derived.Deep.QuietTactic
namespace Go.Proofs.YtcejmfgbfdhflaaGreat
open Go.RowKit Go.Shelf Go.BigFrame Go.Sort
attribute [local go_sem] World.cell?_alloc_some
def fitB (cs : List Ch) (ch first : Int) (t : Th) : Bool := (chF cs ch).isSome && (inB 1 1099511627776 t.num && (inB ((chOr cs ch).year + first) 4000 t.year && okLong t.lo t.hi))
set_option maxRecDepth 100000 in
set_option maxHeartbeats 6400000 in
theorem fits_any (x : WA) (t : Th) (ch first : Int) (w : World) (h : x.At w) (hf : 0 ≤ first ∧ first ≤ 1) (hy : ∀ c ∈ x.cs, 0 ≤ c.year ∧ c.year ≤ 4000) :
    Calls Tryz.prog 83 #[x.v, .agg #[.int .i64 t.num, .int .i64 t.year, .int .i64 t.lo, .int .i64 t.hi], .int .i64 ch, .int .i64 first] w fun e w' => e = .returned (.bool (fitB x.cs ch first t)) ∧ Below w.heap.size w w' := by
  have K0 := fun W (hb : Below w.heap.size w W) => chainAt_any x ch W (h.keep hb)
  have K1 := fun W => rin_any t.num 1 1099511627776 W
  have K2 := fun W => rin_any t.year ((chOr x.cs ch).year + first) 4000 W
  have K3 := fun W => rlong_any t.lo t.hi W
  have H := Lib.hid h.cs
  have k1 := h.k1
  have n1 := h.n1
  have HY := Lib.hid hy
  obtain ⟨x1, h1⟩ : ∃ b, inB 1 1099511627776 t.num = b := ⟨_, rfl⟩
  obtain ⟨x2, h2⟩ : ∃ b, inB ((chOr x.cs ch).year + first) 4000 t.year = b := ⟨_, rfl⟩
  obtain ⟨x3, h3⟩ : ∃ b, okLong t.lo t.hi = b := ⟨_, rfl⟩
  have hr : fitB x.cs ch first t = ((chF x.cs ch).isSome && (x1 && (x2 && x3))) := by rw [fitB, h1, h2, h3]
  rw [hr]
  simp only [h1] at K1
  simp only [h2] at K2
  simp only [h3] at K3
  clear h hy h1 h2 h3 hr
  obtain ⟨z, hz⟩ : ∃ z, (chF x.cs ch).isSome = z := ⟨_, rfl⟩
  have HZ := Lib.hid hz
  rw [hz]
  obtain ⟨cs, ps, rs, q1, q2, q3, c1, c2, c3⟩ := x
  obtain ⟨t1, t2, t3, t4⟩ := t
  simp only [WA.v] at *
  clear hz
  go_enter Tryz.func83, Tryz.ntmps83
  go_wp2_with fail
  obtain ⟨W0, hW0⟩ : ∃ W0, ((w).alloc (.cells #[.slice q1 cs.length c1, .slice q2 ps.length c2, .slice q3 rs.length c3] 26)).alloc (.cells #[.int .i64 (t1), .int .i64 (t2), .int .i64 (t3), .int .i64 (t4)] 128) = W0 := ⟨_, rfl⟩
  have S0 : St w W0 [(w.heap.size + 1, 0, .int .i64 (t1)), (w.heap.size + 1, 1, .int .i64 (t2)), (w.heap.size + 1, 2, .int .i64 (t3)), (w.heap.size + 1, 3, .int .i64 (t4)), (w.heap.size, 0, .slice q1 cs.length c1), (w.heap.size, 1, .slice q2 ps.length c2), (w.heap.size, 2, .slice q3 rs.length c3)] := by rw [← hW0]; exact (((St.nil w)).box #[.slice q1 cs.length c1, .slice q2 ps.length c2, .slice q3 rs.length c3] 26 (w.heap.size) (by simp)).box #[.int .i64 (t1), .int .i64 (t2), .int .i64 (t3), .int .i64 (t4)] 128 (w.heap.size + 1) (by simp)
  rw [hW0]
  clear hW0
  obtain ⟨C, hC0, HC, LC, BC, hne⟩ := cls S0
  haveI := hne
  obtain ⟨c0, rfl⟩ : ∃ n : Wd C, W0 = n.w := ⟨⟨_, hC0⟩, rfl⟩
  have fC0 : ∀ n : Wd C, n.w.cell? ⟨w.heap.size + 1, 0, none⟩ = some (.int .i64 (t1)) := fun n => (LC.out n).1.2.1
  have fC1 : ∀ n : Wd C, n.w.cell? ⟨w.heap.size + 1, 1, none⟩ = some (.int .i64 (t2)) := fun n => (LC.out n).2.1.2.1
  have fC2 : ∀ n : Wd C, n.w.cell? ⟨w.heap.size + 1, 2, none⟩ = some (.int .i64 (t3)) := fun n => (LC.out n).2.2.1.2.1
  have fC3 : ∀ n : Wd C, n.w.cell? ⟨w.heap.size + 1, 3, none⟩ = some (.int .i64 (t4)) := fun n => (LC.out n).2.2.2.1.2.1
  have fC4 : ∀ n : Wd C, n.w.cell? ⟨w.heap.size, 0, none⟩ = some (.slice q1 cs.length c1) := fun n => (LC.out n).2.2.2.2.1.2.1
  have fC5 : ∀ n : Wd C, n.w.cell? ⟨w.heap.size, 1, none⟩ = some (.slice q2 ps.length c2) := fun n => (LC.out n).2.2.2.2.2.1.2.1
  have fC6 : ∀ n : Wd C, n.w.cell? ⟨w.heap.size, 2, none⟩ = some (.slice q3 rs.length c3) := fun n => (LC.out n).2.2.2.2.2.2.1.2.1
  clear S0 hC0
  go_wp2_with fail
  refine (K0 _ (BC.out _)).mono ?_
  rintro e w1 ⟨⟨m, rfl, hm⟩, hb⟩
  obtain ⟨n, rfl⟩ : ∃ n : Wd C, w1 = n.w := ⟨⟨_, HC.out _ _ (Wd.h _) hb⟩, rfl⟩
  clear hb K0
  go_upto_region 2 with fail
  rcases hm with ⟨hz, rfl⟩ | ⟨k, hk, rfl, hc⟩
  · obtain rfl : z = false := by have := HZ.out; rw [← this]; exact hz
    clear hz
    refine wp_region_in C (HC.out _ _ (Wd.h _) (below_dr _)) (by kernel_rfl) (by kernel_rfl) ?_
    repeat (go_big_quiet_step (first | fail))
    refine wpQuiet_nil ?_
    intro wx hwx
    obtain ⟨n2, rfl⟩ : ∃ n : Wd C, wx = n.w := ⟨⟨wx, hwx⟩, rfl⟩
    clear hwx
    go_wp2_with fail
    go_ret
    exact ⟨ret_bool (by simp), BC.out _⟩
  · obtain rfl : z = true := by have := HZ.out; rw [← this, hc]; rfl
    rw [chOr_some hc] at K2
    rcases H.out with h0 | ⟨b, o, he, hb, hcc⟩
    · exact absurd hk (by simp [show cs = [] from h0])
    obtain rfl : q1 = some ⟨b, o, none⟩ := he
    obtain ⟨-, d2, -⟩ := hcc k cs[k] (List.getElem?_eq_getElem hk)
    have hyk := HY.out cs[k] (List.getElem_mem hk)
    obtain ⟨y, hyy⟩ : ∃ y, cs[k].year = y := ⟨_, rfl⟩
    simp only [show cs[k].year = y from hyy] at K2 d2 hyk
    have fY : ∀ n : Wd C, n.w.cell? ⟨b, o + k * 5 + 1, none⟩ = some (.int .i64 y) := fun n => ((BC.out n).cell (p := ⟨b, o + k * 5 + 1, none⟩) hb).trans d2
    have hmx : max (k : Int) 0 = k := by omega
    have hk2 : (k : Int) < (cs.length : Int) := by omega
    have hw1 : wrap64 (y + first) = y + first := w64 (by omega)
    clear d2 hcc hyy hc
    have D1 := fun n : Wd C => csame (C := C) K1 n
    have D2 := fun n : Wd C => csame (C := C) K2 n
    have D3 := cin HC fun W => Calls.be (K3 W)
    clear K1 K2 K3
    cases x1
    · skip
      refine wp_region_in C (HC.out _ _ (Wd.h _) (below_dr _)) (by kernel_rfl) (by kernel_rfl) ?_
      repeat (go_big_quiet_step (first | with_reducible exact (D1 _).out))
      refine wpQuiet_nil ?_
      intro wx hwx
      obtain ⟨n2, rfl⟩ : ∃ n : Wd C, wx = n.w := ⟨⟨wx, hwx⟩, rfl⟩
      clear hwx
      go_wp2_with fail
      go_ret
      exact ⟨rfl, BC.out _⟩
    cases x2
    · skip
      refine wp_region_in C (HC.out _ _ (Wd.h _) (below_dr _)) (by kernel_rfl) (by kernel_rfl) ?_
      repeat (go_big_quiet_step (first | with_reducible exact (D1 _).out | with_reducible exact (D2 _).out))
      refine wpQuiet_nil ?_
      intro wx hwx
      obtain ⟨n2, rfl⟩ : ∃ n : Wd C, wx = n.w := ⟨⟨wx, hwx⟩, rfl⟩
      clear hwx
      go_wp2_with fail
      go_ret
      exact ⟨rfl, BC.out _⟩
    · skip
      refine wp_region_in C (HC.out _ _ (Wd.h _) (below_dr _)) (by kernel_rfl) (by kernel_rfl) ?_
      repeat (go_big_quiet_step (first | with_reducible exact (D1 _).out | with_reducible exact (D2 _).out | with_reducible exact (D3 _).out))
      refine wpQuiet_nil ?_
      intro wx hwx
      obtain ⟨n2, rfl⟩ : ∃ n : Wd C, wx = n.w := ⟨⟨wx, hwx⟩, rfl⟩
      clear hwx
      go_wp2_with fail
      go_ret
      exact ⟨rfl, BC.out _⟩
end Go.Proofs.YtcejmfgbfdhflaaGreat
