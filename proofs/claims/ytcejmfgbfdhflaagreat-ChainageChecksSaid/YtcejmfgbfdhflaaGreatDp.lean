import Derived.Test.YtcejmfgbfdhflaaGreatDo
import Derived.WalkKit
import Derived.LoopTactic
import Derived.WalkSpells
import Derived.WalkLawsBesides
import Derived.Lib.Hide
import Derived.BigQuiet
import Derived.IntWalk
import Derived.Deep.DeepMust
import Derived.WalkSmall
import Derived.StillTailTactics
import Derived.Deep.RegionLaw
import Derived.Deep.RegionHeld3
import Derived.Deep.QuietTactic
namespace Go.Proofs.YtcejmfgbfdhflaaGreat
open Go.RowKit Go.Shelf Go.BigFrame Go.Sort
attribute [local go_sem] World.cell?_alloc_some
/-- The years of a spell, as the specification finds them. -/
def stp (c : Ch) (y : Int) (a : Int × Int) (r : Pf) : Int × Int := if r.ch ≠ c.id then a else if r.year ≤ y then (max a.1 r.year, a.2) else (a.1, min a.2 (r.year - 1))
def rsp (c : Ch) (y : Int) (rs : List Pf) : Int × Int := rs.foldl (stp c y) (c.year, 4000)
theorem rsp_snoc (c : Ch) (y : Int) (l : List Pf) (r : Pf) : rsp c y (l ++ [r]) = stp c y (rsp c y l) r := by simp [rsp]
def spL (B : Nat) (id : Int) (v2 : Value) (a : Int × Int) : List (Nat × Nat × Value) := [(B + 1 + 1 + 1, 0, .int .i64 a.1), (B + 1 + 1 + 1, 1, .int .i64 a.2), (B + 1 + 1, 0, .int .i64 0), (B + 1 + 1, 1, .int .i64 0), (B + 1, 0, .int .i64 id), (B, 2, v2)]
theorem spL_lo {W : World} {B : Nat} {id : Int} {v2 : Value} {a : Int × Int} {u : Int} (h : Cs W (spL B id v2 a)) : Cs (W.setCell ⟨B + 1 + 1 + 1, 0, none⟩ (.int .i64 u)) (spL B id v2 (u, a.2)) := by
  have := h.upd (b := B + 1 + 1 + 1) (o := 0) (u := .int .i64 u)
  simpa [spL] using this
theorem spL_hi {W : World} {B : Nat} {id : Int} {v2 : Value} {a : Int × Int} {u : Int} (h : Cs W (spL B id v2 a)) : Cs (W.setCell ⟨B + 1 + 1 + 1, 1, none⟩ (.int .i64 u)) (spL B id v2 (a.1, u)) := by
  have := h.upd (b := B + 1 + 1 + 1) (o := 1) (u := .int .i64 u)
  simpa [spL] using this
set_option maxRecDepth 100000 in
set_option maxHeartbeats 6400000 in
theorem rspell_any (x : WA) (c : Ch) (y : Int) (w : World) (h : x.At w) (hr : ∀ r ∈ x.rs, 0 ≤ r.year ∧ r.year ≤ 4000) :
    Calls Tryz.prog 73 #[x.v, c.v, .int .i64 y] w fun e w' => e = .returned (spv (rsp c y x.rs).1 (rsp c y x.rs).2) ∧ Below w.heap.size w w' := by
  have H := Lib.hid h.rs
  have HR := Lib.hid hr
  have n3 := h.n3
  clear h hr
  obtain ⟨cs, ps, rs, q1, q2, q3, c1, c2, c3⟩ := x
  simp only [WA.v] at *
  go_enter Tryz.func73, Tryz.ntmps73
  go_upto_region 2 with fail
  obtain ⟨W0, hW0⟩ : ∃ W0, ((((w).alloc (.cells #[.slice q1 cs.length c1, .slice q2 ps.length c2, .slice q3 rs.length c3] 26)).alloc (.cells #[.int .i64 c.id, .int .i64 c.year, .int .i64 c.lo, .int .i64 c.hi, .int .i64 c.wear] 90)).alloc (.cells #[.int .i64 0, .int .i64 0] 30)).alloc (.cells #[.int .i64 c.year, .int .i64 4000] 30) = W0 := ⟨_, rfl⟩
  have S0 : St w W0 [(w.heap.size + 1 + 1 + 1, 0, .int .i64 c.year), (w.heap.size + 1 + 1 + 1, 1, .int .i64 4000), (w.heap.size + 1 + 1, 0, .int .i64 0), (w.heap.size + 1 + 1, 1, .int .i64 0), (w.heap.size + 1, 0, .int .i64 c.id), (w.heap.size + 1, 1, .int .i64 c.year), (w.heap.size + 1, 2, .int .i64 c.lo), (w.heap.size + 1, 3, .int .i64 c.hi), (w.heap.size + 1, 4, .int .i64 c.wear), (w.heap.size, 0, .slice q1 cs.length c1), (w.heap.size, 1, .slice q2 ps.length c2), (w.heap.size, 2, .slice q3 rs.length c3)] := by rw [← hW0]; exact (((((St.nil w)).box #[.slice q1 cs.length c1, .slice q2 ps.length c2, .slice q3 rs.length c3] 26 (w.heap.size) (by simp)).box #[.int .i64 c.id, .int .i64 c.year, .int .i64 c.lo, .int .i64 c.hi, .int .i64 c.wear] 90 (w.heap.size + 1) (by simp)).box #[.int .i64 0, .int .i64 0] 30 (w.heap.size + 1 + 1) (by simp)).box #[.int .i64 c.year, .int .i64 4000] 30 (w.heap.size + 1 + 1 + 1) (by simp)
  rw [hW0]
  clear hW0
  obtain ⟨C, hC0, HC, LC, BC, hne⟩ := cls S0
  haveI := hne
  obtain ⟨c0, rfl⟩ : ∃ n : Wd C, W0 = n.w := ⟨⟨_, hC0⟩, rfl⟩
  have fC0 : ∀ n : Wd C, n.w.cell? ⟨w.heap.size + 1 + 1 + 1, 0, none⟩ = some (.int .i64 c.year) := fun n => (LC.out n).1.2.1
  have zC0 : ∀ n : Wd C, n.w.frozen? ⟨w.heap.size + 1 + 1 + 1, 0, none⟩ = false := fun n => (LC.out n).1.2.2
  have fC1 : ∀ n : Wd C, n.w.cell? ⟨w.heap.size + 1 + 1 + 1, 1, none⟩ = some (.int .i64 4000) := fun n => (LC.out n).2.1.2.1
  have zC1 : ∀ n : Wd C, n.w.frozen? ⟨w.heap.size + 1 + 1 + 1, 1, none⟩ = false := fun n => (LC.out n).2.1.2.2
  have fC2 : ∀ n : Wd C, n.w.cell? ⟨w.heap.size + 1 + 1, 0, none⟩ = some (.int .i64 0) := fun n => (LC.out n).2.2.1.2.1
  have zC2 : ∀ n : Wd C, n.w.frozen? ⟨w.heap.size + 1 + 1, 0, none⟩ = false := fun n => (LC.out n).2.2.1.2.2
  have fC3 : ∀ n : Wd C, n.w.cell? ⟨w.heap.size + 1 + 1, 1, none⟩ = some (.int .i64 0) := fun n => (LC.out n).2.2.2.1.2.1
  have zC3 : ∀ n : Wd C, n.w.frozen? ⟨w.heap.size + 1 + 1, 1, none⟩ = false := fun n => (LC.out n).2.2.2.1.2.2
  have fC4 : ∀ n : Wd C, n.w.cell? ⟨w.heap.size + 1, 0, none⟩ = some (.int .i64 c.id) := fun n => (LC.out n).2.2.2.2.1.2.1
  have fC5 : ∀ n : Wd C, n.w.cell? ⟨w.heap.size + 1, 1, none⟩ = some (.int .i64 c.year) := fun n => (LC.out n).2.2.2.2.2.1.2.1
  have fC6 : ∀ n : Wd C, n.w.cell? ⟨w.heap.size + 1, 2, none⟩ = some (.int .i64 c.lo) := fun n => (LC.out n).2.2.2.2.2.2.1.2.1
  have fC7 : ∀ n : Wd C, n.w.cell? ⟨w.heap.size + 1, 3, none⟩ = some (.int .i64 c.hi) := fun n => (LC.out n).2.2.2.2.2.2.2.1.2.1
  have fC8 : ∀ n : Wd C, n.w.cell? ⟨w.heap.size + 1, 4, none⟩ = some (.int .i64 c.wear) := fun n => (LC.out n).2.2.2.2.2.2.2.2.1.2.1
  have fC9 : ∀ n : Wd C, n.w.cell? ⟨w.heap.size, 0, none⟩ = some (.slice q1 cs.length c1) := fun n => (LC.out n).2.2.2.2.2.2.2.2.2.1.2.1
  have fC10 : ∀ n : Wd C, n.w.cell? ⟨w.heap.size, 1, none⟩ = some (.slice q2 ps.length c2) := fun n => (LC.out n).2.2.2.2.2.2.2.2.2.2.1.2.1
  have fC11 : ∀ n : Wd C, n.w.cell? ⟨w.heap.size, 2, none⟩ = some (.slice q3 rs.length c3) := fun n => (LC.out n).2.2.2.2.2.2.2.2.2.2.2.1.2.1
  clear S0 hC0
  have S0 : St w c0.w (spL w.heap.size c.id (.slice q3 rs.length c3) (rsp c y (rs.take 0))) := ⟨BC.out c0, by
    obtain ⟨a1, a2, a3, a4, a5, -, -, -, -, -, -, a6, -⟩ := LC.out c0
    exact ⟨a1, a2, a3, a4, a5, a6, trivial⟩⟩
  obtain ⟨v2, hv2⟩ : ∃ v, (Value.slice q3 rs.length c3) = v := ⟨_, rfl⟩
  obtain ⟨w0, hw0⟩ : ∃ w0, c0.w = w0 := ⟨_, rfl⟩
  rw [hw0] at S0 ⊢
  clear fC0 fC1 fC2 fC3 fC4 fC5 fC6 fC7 fC8 fC9 fC10 fC11 zC0 zC1 zC2 zC3 LC BC HC hne hw0 v2 hv2 c0
  go_wp2_with fail
  go_loopw [8] (fun i wr => ∃ (k : Nat), St w wr (spL w.heap.size c.id (.slice q3 rs.length c3) (rsp c y (rs.take k))) ∧ i = .int .i64 (k : Int) ∧ k ≤ rs.length) (fun i wr => rs.length - (intOf i).toNat)
  case atStart => exact ⟨0, S0, rfl, Nat.zero_le _⟩
  case round =>
    obtain ⟨k, hS, rfl, hk⟩ := hrel
    have HS := Lib.hid hS
    clear S0
    by_cases hlt : k < rs.length
    · have hsn := rsp_snoc c y (rs.take k) rs[k]
      rw [← take_snocG rs k hlt] at hsn
      rcases H.out with h0 | ⟨b, o, he, hb, hc⟩
      · exact absurd hlt (by simp [show rs = [] from h0])
      obtain rfl : q3 = some ⟨b, o, none⟩ := he
      obtain ⟨d1, d2, d3, d4, d5⟩ := hc k rs[k] (List.getElem?_eq_getElem hlt)
      have b1 := (hS.b.cell (p := ⟨b, o + k * 5, none⟩) hb).trans d1
      have b2 := (hS.b.cell (p := ⟨b, o + k * 5 + 1, none⟩) hb).trans d2
      have b3 := (hS.b.cell (p := ⟨b, o + k * 5 + 2, none⟩) hb).trans d3
      have b4 := (hS.b.cell (p := ⟨b, o + k * 5 + 3, none⟩) hb).trans d4
      have b5 := (hS.b.cell (p := ⟨b, o + k * 5 + 4, none⟩) hb).trans d5
      have hyr := HR.out rs[k] (List.getElem_mem hlt)
      obtain ⟨r, hr⟩ : ∃ p, rs[k] = p := ⟨_, rfl⟩
      simp only [show rs[k] = r from hr] at b1 b2 b3 b4 b5 hsn hyr
      obtain ⟨a, ha⟩ : ∃ a, rsp c y (rs.take k) = a := ⟨_, rfl⟩
      rw [ha] at hsn HS
      have HSN := Lib.hid hsn
      have hSa := HS.out
      obtain ⟨lo, hi⟩ := a
      obtain ⟨⟨z0, f0, y0⟩, ⟨-, f1, y1⟩, -, -, ⟨z1, f2, -⟩, ⟨z2, f3, -⟩, -⟩ := hSa.c
      have hlt' : (k : Int) < (rs.length : Int) := by omega
      have hw1 : wrap64 (r.year - 1) = r.year - 1 := w64 (by omega)
      have hne0 : w.heap.size + 1 + 1 + 1 ≠ wr.heap.size := by omega
      clear d1 d2 d3 d4 d5 hc hb hS hr ha hsn hSa hyr
      by_cases hch : r.ch = c.id
      · by_cases hy : r.year ≤ y
        · have hch' : (r.ch != c.id) = false := by simpa using hch
          have hst : stp c y (lo, hi) r = (max lo r.year, hi) := by unfold stp; rw [if_neg (by simpa using hch), if_pos hy]
          have HST := Lib.hid hst
          clear hst hch
          go_wp2_with fail
          go_roundw
          case rel => exact ⟨k + 1, by rw [HSN.out, HST.out]; exact St.al ⟨below_grownB HS.out.b (by omega) (set_grown _ _ _ _), spL_lo HS.out.c⟩ _, by simp, hlt⟩
          case measure => simp [intOf]; omega
        · have hch' : (r.ch != c.id) = false := by simpa using hch
          have hst : stp c y (lo, hi) r = (lo, min hi (r.year - 1)) := by unfold stp; rw [if_neg (by simpa using hch), if_neg hy]
          have HST := Lib.hid hst
          clear hst hch
          go_wp2_with fail
          go_roundw
          case rel => exact ⟨k + 1, by rw [HSN.out, HST.out]; exact St.al ⟨below_grownB HS.out.b (by omega) (set_grown _ _ _ _), spL_hi HS.out.c⟩ _, by simp, hlt⟩
          case measure => simp [intOf]; omega
      · have hch' : (r.ch != c.id) = true := by simpa using hch
        have hst : stp c y (lo, hi) r = (lo, hi) := by unfold stp; rw [if_pos hch]
        have HST := Lib.hid hst
        clear hst hch
        go_wp2_with fail
        go_roundw
        case rel => exact ⟨k + 1, by rw [HSN.out, HST.out]; exact HS.out.al _, by simp, hlt⟩
        case measure => simp [intOf]; omega
    · obtain rfl : k = rs.length := by omega
      rw [List.take_length] at hS HS
      obtain ⟨lo, hi⟩ := rsp c y rs
      obtain ⟨⟨z0, f0, y0⟩, ⟨-, f1, y1⟩, ⟨-, g0, x0⟩, ⟨-, g1, x1⟩, ⟨z1, f2, -⟩, ⟨z2, f3, -⟩, -⟩ := hS.c
      clear hS
      go_wp2_with fail
      refine bodyPost_ret (v := spv (rsp c y rs).1 (rsp c y rs).2) (by simp [results, Tryz.results73, go_sem, g0, g1]) rfl ⟨rfl, ?_⟩
      exact below_grownB HS.out.b (Nat.le_add_right _ 2) (grown_trans (set_grown _ _ _ _) (set_grown _ _ _ _))
end Go.Proofs.YtcejmfgbfdhflaaGreat
