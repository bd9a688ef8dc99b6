import Derived.Test.YtcejmfgbfdhflaaGreatCa
import Derived.Test.YtcejmfgbfdhflaaGreatLg
import Derived.WalkKit
import Derived.LoopTactic
import Derived.WalkSpells
import Derived.WalkLawsBesides
import Derived.Lib.Hide
import Derived.BigQuiet
import Derived.IntWalk
import Derived.Deep.DeepMust
import Derived.WalkSmall
import Derived.StillTailTactics
import Derived.Deep.RegionLaw
import Derived.Deep.RegionHeld3
import Derived.Deep.QuietTactic
namespace Go.Proofs.YtcejmfgbfdhflaaGreat
open Go.RowKit Go.BigFrame Go.Sort
attribute [local go_sem] World.cell?_alloc_some
/-- Works, and where they lie. -/
structure WA where
  cs : List Ch
  ps : List Pf
  rs : List Pf
  q1 : Option Addr
  q2 : Option Addr
  q3 : Option Addr
  c1 : Nat
  c2 : Nat
  c3 : Nat
abbrev WA.v (x : WA) : Value := .agg #[.slice x.q1 x.cs.length x.c1, .slice x.q2 x.ps.length x.c2, .slice x.q3 x.rs.length x.c3]
structure WA.At (x : WA) (W : World) : Prop where
  cs : ChsAt W x.q1 x.cs
  ps : PfsAt W x.q2 x.ps
  rs : PfsAt W x.q3 x.rs
  n1 : x.cs.length ≤ 1000
  n2 : x.ps.length ≤ 1000
  n3 : x.rs.length ≤ 1000
  k1 : x.cs.length ≤ x.c1
  k2 : x.ps.length ≤ x.c2
  k3 : x.rs.length ≤ x.c3
  m1 : x.c1 ≤ maxLen
  m2 : x.c2 ≤ maxLen
  m3 : x.c3 ≤ maxLen
theorem WA.At.keep {x : WA} {W W' : World} (h : x.At W) (hb : Below W.heap.size W W') : x.At W' :=
  ⟨h.cs.keep hb, h.ps.keep hb, h.rs.keep hb, h.n1, h.n2, h.n3, h.k1, h.k2, h.k3, h.m1, h.m2, h.m3⟩
def WA.ids (x : WA) : List Int := x.ps.map (·.id) ++ x.rs.map (·.id)
set_option maxHeartbeats 400000 in
theorem proofID_any (p : Pf) (w : World) : Calls Tryz.prog 92 #[p.v] w fun e w' => e = .returned (.int .i64 p.id) ∧ Gr w w' := by
  go_enter Tryz.func92, Tryz.ntmps92
  go_wp2_with fail
  go_ret
  exact ⟨rfl, Gr.al _ _⟩
set_option maxHeartbeats 400000 in
theorem repairID_any (p : Pf) (w : World) : Calls Tryz.prog 94 #[p.v] w fun e w' => e = .returned (.int .i64 p.id) ∧ Gr w w' := by
  go_enter Tryz.func94, Tryz.ntmps94
  go_wp2_with fail
  go_ret
  exact ⟨rfl, Gr.al _ _⟩
set_option maxRecDepth 100000 in
set_option maxHeartbeats 3200000 in
theorem idsOf_any (x : WA) (w : World) (h : x.At w) : Calls Tryz.prog 76 #[x.v] w fun e w' => ∃ v, e = .returned v ∧ OI w' (w.heap.size + 1) v x.ids ∧ Below w.heap.size w w' := by
  have n2 := h.n2
  have n3 := h.n3
  have H2 := Lib.hid h.ps
  have H3 := Lib.hid h.rs
  clear h
  obtain ⟨cs, ps, rs, q1, q2, q3, c1, c2, c3⟩ := x
  simp only [WA.v, WA.ids] at *
  go_enter Tryz.func76, Tryz.ntmps76
  go_wp2_with fail
  obtain ⟨W0, hW0⟩ : ∃ W0, (w).alloc (.cells #[.slice q1 cs.length c1, .slice q2 ps.length c2, .slice q3 rs.length c3] 26) = W0 := ⟨_, rfl⟩
  have S0 : St w W0 [(w.heap.size, 0, .slice q1 cs.length c1), (w.heap.size, 1, .slice q2 ps.length c2), (w.heap.size, 2, .slice q3 rs.length c3)] := by rw [← hW0]; exact ((St.nil w)).box #[.slice q1 cs.length c1, .slice q2 ps.length c2, .slice q3 rs.length c3] 26 (w.heap.size) (by simp)
  rw [hW0]
  clear hW0
  obtain ⟨C, hC0, HC, LC, BC, hne⟩ := cls S0
  haveI := hne
  obtain ⟨c0, rfl⟩ : ∃ n : Wd C, W0 = n.w := ⟨⟨_, hC0⟩, rfl⟩
  have fC0 : ∀ n : Wd C, n.w.cell? ⟨w.heap.size, 0, none⟩ = some (.slice q1 cs.length c1) := fun n => (LC.out n).1.2.1
  have fC1 : ∀ n : Wd C, n.w.cell? ⟨w.heap.size, 1, none⟩ = some (.slice q2 ps.length c2) := fun n => (LC.out n).2.1.2.1
  have fC2 : ∀ n : Wd C, n.w.cell? ⟨w.heap.size, 2, none⟩ = some (.slice q3 rs.length c3) := fun n => (LC.out n).2.2.1.2.1
  clear S0 hC0
  go_loopw [3, 11] (fun v i wr => ∃ (k : Nat), St w wr [(w.heap.size, 0, .slice q1 cs.length c1), (w.heap.size, 1, .slice q2 ps.length c2), (w.heap.size, 2, .slice q3 rs.length c3)] ∧ i = .int .i64 (k : Int) ∧ k ≤ ps.length ∧ OI wr (w.heap.size + 1) v ((ps.take k).map (·.id))) (fun v i wr => ps.length - (intOf i).toNat)
  case atStart => exact ⟨0, ⟨BC.out _, LC.out _⟩, rfl, Nat.zero_le _, World.ownsRow_nil _ _ _ _⟩
  case round =>
    obtain ⟨k, hS, rfl, hk, hO⟩ := hrel
    have HO := Lib.hid hO
    have HS := Lib.hid hS
    have HB := Lib.hid hS.b
    clear fC0 fC1 fC2 hO
    by_cases hlt : k < ps.length
    · rcases H2.out with h0 | ⟨b, o, rfl, hb, hc⟩
      · exact absurd hlt (by simp [h0])
      · obtain ⟨c1, c2, c3, c4, c5⟩ := hc k ps[k] (List.getElem?_eq_getElem hlt)
        have b1 := (hS.b.cell (p := ⟨b, o + k * 5, none⟩) hb).trans c1
        have b2 := (hS.b.cell (p := ⟨b, o + k * 5 + 1, none⟩) hb).trans c2
        have b3 := (hS.b.cell (p := ⟨b, o + k * 5 + 2, none⟩) hb).trans c3
        have b4 := (hS.b.cell (p := ⟨b, o + k * 5 + 3, none⟩) hb).trans c4
        have b5 := (hS.b.cell (p := ⟨b, o + k * 5 + 4, none⟩) hb).trans c5
        have HN : Hid ((ps.take (k + 1)).map (·.id) = (ps.take k).map (·.id) ++ [ps[k].id]) := by unfold Hid; rw [take_snocG ps k hlt, List.map_append]; rfl
        have HL : Hid (((ps.take k).map (·.id)).length ≤ 1000000) := by unfold Hid; simp; omega
        obtain ⟨p, hp⟩ : ∃ p, ps[k] = p := ⟨_, rfl⟩
        rw [hp] at b1 b2 b3 b4 b5 HN
        have hlt' : (k : Int) < (ps.length : Int) := by omega
        clear c1 c2 c3 c4 c5 hc hb hS hp
        go_wp2_with (first
          | (go_at_call 92; refine (proofID_any _ _).mono ?_; rintro e w1 ⟨rfl, hg⟩; have HG := Lib.hid ((Gr.al _ _).trans hg).below; clear hg)
          | (at_builtin; refine appI (ownsRow_keep HO.out HG.out) (Nat.le_trans (Nat.succ_le_of_lt HS.out.c.1.1) HG.out.size) p.id HL.out rfl _ _ rfl rfl rfl ?_; intro v' w2 hO2 hg2))
        go_roundw
        case rel => exact ⟨k + 1, (HS.out.next HG.out).grown (ownsRow_keep HO.out HG.out) hg2 (Nat.le_succ _) (by simp), by simp, hlt, by rw [HN.out]; exact hO2⟩
        case measure => simp [intOf]; omega
    · obtain rfl : k = ps.length := by omega
      rw [List.take_length] at HO
      obtain ⟨f0, f1, f2, -⟩ := hS.c
      obtain ⟨-, f0, -⟩ := f0
      obtain ⟨-, f1, -⟩ := f1
      obtain ⟨-, f2, -⟩ := f2
      clear hS
      go_wp2_with fail
      clear f0 f1 f2
      go_loopw [3, 24] (fun v i wr => ∃ (k : Nat), St w wr [(w.heap.size, 0, .slice q1 cs.length c1), (w.heap.size, 1, .slice q2 ps.length c2), (w.heap.size, 2, .slice q3 rs.length c3)] ∧ i = .int .i64 (k : Int) ∧ k ≤ rs.length ∧ OI wr (w.heap.size + 1) v (ps.map (·.id) ++ (rs.take k).map (·.id))) (fun v i wr => rs.length - (intOf i).toNat)
      case atStart => exact ⟨0, HS.out, rfl, Nat.zero_le _, by simpa using HO.out⟩
      case round =>
        clear HO HS HB
        obtain ⟨k, hS, rfl, hk, hO⟩ := hrel
        have HO := Lib.hid hO
        have HS := Lib.hid hS
        have HB := Lib.hid hS.b
        clear hO
        by_cases hlt : k < rs.length
        · rcases H3.out with h0 | ⟨b, o, rfl, hb, hc⟩
          · exact absurd hlt (by simp [h0])
          · obtain ⟨c1, c2, c3, c4, c5⟩ := hc k rs[k] (List.getElem?_eq_getElem hlt)
            have b1 := (hS.b.cell (p := ⟨b, o + k * 5, none⟩) hb).trans c1
            have b2 := (hS.b.cell (p := ⟨b, o + k * 5 + 1, none⟩) hb).trans c2
            have b3 := (hS.b.cell (p := ⟨b, o + k * 5 + 2, none⟩) hb).trans c3
            have b4 := (hS.b.cell (p := ⟨b, o + k * 5 + 3, none⟩) hb).trans c4
            have b5 := (hS.b.cell (p := ⟨b, o + k * 5 + 4, none⟩) hb).trans c5
            have HN : Hid (ps.map (·.id) ++ (rs.take (k + 1)).map (·.id) = (ps.map (·.id) ++ (rs.take k).map (·.id)) ++ [rs[k].id]) := by unfold Hid; rw [take_snocG rs k hlt, List.map_append, List.append_assoc]; rfl
            have HL : Hid ((ps.map (·.id) ++ (rs.take k).map (·.id)).length ≤ 1000000) := by unfold Hid; simp; omega
            obtain ⟨p, hp⟩ : ∃ p, rs[k] = p := ⟨_, rfl⟩
            rw [hp] at b1 b2 b3 b4 b5 HN
            have hlt' : (k : Int) < (rs.length : Int) := by omega
            clear c1 c2 c3 c4 c5 hc hb hS hp
            go_wp2_with (first
              | (go_at_call 94; refine (repairID_any _ _).mono ?_; rintro e w1 ⟨rfl, hg⟩; have HG := Lib.hid ((Gr.al _ _).trans hg).below; clear hg)
              | (at_builtin; refine appI (ownsRow_keep HO.out HG.out) (Nat.le_trans (Nat.succ_le_of_lt HS.out.c.1.1) HG.out.size) p.id HL.out rfl _ _ rfl rfl rfl ?_; intro v' w2 hO2 hg2))
            go_roundw
            case rel => exact ⟨k + 1, (HS.out.next HG.out).grown (ownsRow_keep HO.out HG.out) hg2 (Nat.le_succ _) (by simp), by simp, hlt, by rw [HN.out]; exact hO2⟩
            case measure => simp [intOf]; omega
        · obtain rfl : k = rs.length := by omega
          rw [List.take_length] at HO
          clear hS
          go_wp2_with fail
          go_ret
          exact ⟨_, rfl, HO.out, HB.out⟩
end Go.Proofs.YtcejmfgbfdhflaaGreat
