import Derived.Test.YtcejmfgbfdhflaaGreatDj
import Derived.WalkKit
import Derived.LoopTactic
import Derived.WalkSpells
import Derived.WalkLawsBesides
import Derived.Lib.Hide
import Derived.BigQuiet
import Derived.IntWalk
import Derived.Deep.DeepMust
import Derived.WalkSmall
import Derived.StillTailTactics
import Derived.Deep.RegionLaw
import Derived.Deep.RegionHeld3
import Derived.Deep.QuietTactic
namespace Go.Proofs.YtcejmfgbfdhflaaGreat
open Go.RowKit Go.Shelf Go.BigFrame Go.Sort
attribute [local go_sem] World.cell?_alloc_some
/-- The cells of things of the specification. -/
def flat4 : List Th → List Value
  | [] => []
  | t :: l => .int .i64 t.num :: .int .i64 t.year :: .int .i64 t.lo :: .int .i64 t.hi :: flat4 l
theorem flat4_app (l m : List Th) : flat4 (l ++ m) = flat4 l ++ flat4 m := by
  induction l with
  | nil => rfl
  | cons p l ih => simp [flat4, ih]
theorem flat4_one : ∀ {l : List Th}, ∀ u ∈ flat4 l, u.oneCell' = true
  | [], u, h => by simp [flat4] at h
  | p :: l, u, h => by
    simp only [flat4, List.mem_cons] at h
    rcases h with rfl | rfl | rfl | rfl | h
    · rfl
    · rfl
    · rfl
    · rfl
    · exact flat4_one u h
theorem flat4_get : ∀ {l : List Th} {j : Nat} {q : Th}, l[j]? = some q → (flat4 l)[j * 4]? = some (.int .i64 q.num) ∧ (flat4 l)[j * 4 + 1]? = some (.int .i64 q.year) ∧ (flat4 l)[j * 4 + 2]? = some (.int .i64 q.lo) ∧ (flat4 l)[j * 4 + 3]? = some (.int .i64 q.hi)
  | [], _, _, h => by simp at h
  | p :: l, 0, q, h => by
    obtain rfl : p = q := by simpa using h
    exact ⟨rfl, rfl, rfl, rfl⟩
  | p :: l, j + 1, q, h => by
    have ih := flat4_get (l := l) (j := j) (q := q) (by simpa using h)
    rw [show (j + 1) * 4 = j * 4 + 1 + 1 + 1 + 1 from by omega]
    simpa [flat4] using ih
abbrev OTh (W : World) (B : Nat) (v : Value) (l : List Th) : Prop := W.ownsRow B 128 4 v l.length (flat4 l)
theorem inf128 : (Tryz.prog.info? 128).map (fun i => (i.zero, i.size, i.bytes)) = some (some (.agg #[.int .i64 0, .int .i64 0, .int .i64 0, .int .i64 0]), 4, 32) := by kernel_rfl
theorem appH {B : Nat} {v : Value} {l : List Th} {W : World} (hP : OTh W B v l) (hw : B ≤ W.heap.size) (t : Th) (hl : l.length ≤ 1000000) {ops : Array Oper} {rest : List Oper} {o : Oper} {a : Act} {Q : Exit → Act → World → Prop} (hgd : o.guard = none) (s z : Operand)
    (ho : o.op = .call { callee := .builtin .append, args := #[s, z], argTypes := #[123, 123] }) (hs : a.eval s = v) (hx : a.eval z = .slice (some ⟨W.heap.size, 0, none⟩) 1 1)
    (h : ∀ v' w', OTh w' B v' (l ++ [t]) → W.grownBy w' v.ownBlock → wpList Tryz.prog ops Q rest (a.put o.dst v') w') : wpList Tryz.prog ops Q (o :: rest) a (W.alloc (.cells #[.int .i64 t.num, .int .i64 t.year, .int .i64 t.lo, .int .i64 t.hi] 128)) := by
  obtain ⟨i0, hi, hz0, hz1, hz2⟩ := info_parts inf128
  refine wpList_append_own _ hgd s z 123 ho B 128 i0 (.agg #[.int .i64 0, .int .i64 0, .int .i64 0, .int .i64 0]) 4 32 Tryz.underlying123 hi hz0 hz1 hz2 rfl (by decide) v l.length (flat4 l) hs (hP.alloc _) ⟨W.heap.size, 0, none⟩ 1 1 (flat4 [t]) hx rfl ?_ flat4_one ?_ ?_ ?_ ?_
  · intro j u hu
    have hj : j < 4 := (List.getElem?_eq_some_iff.1 hu).1
    have := new_at W #[.int .i64 t.num, .int .i64 t.year, .int .i64 t.lo, .int .i64 t.hi] 128 j u hu
    rwa [show (⟨W.heap.size, 0, none⟩ : Addr).add j = ⟨W.heap.size, j, none⟩ from by simp [Addr.add]; omega]
  · unfold maxLen; omega
  · omega
  · simp; omega
  · intro v' w' ho' hg _
    refine h v' w' ?_ ?_
    · show w'.ownsRow B 128 4 v' (l ++ [t]).length (flat4 (l ++ [t]))
      rw [List.length_append, flat4_app]; exact ho'
    · exact ⟨hg.os, hg.tape, hg.output, by have := hg.size; simp at this; omega, fun k hk hne => (hg.block k (by simp; omega) hne).trans (Below.heap_alloc W _ k hk)⟩
theorem rows_apart {W W' : World} {B e k n : Nat} {v : Value} {xs : List Value} {B' e' k' n' : Nat} {v' : Value} {xs' : List Value} (h : W.ownsRow B e k v n xs) (h' : W.ownsRow B' e' k' v' n' xs') (hne : e ≠ e') (hg : W.grownBy W' v'.ownBlock) : W'.ownsRow B e k v n xs := by
  obtain ⟨h1, h2 | ⟨g, cap, cur, rfl, hB, hc, h3, h4, h5, h6⟩⟩ := h
  · exact ⟨h1, .inl h2⟩
  · refine ⟨h1, .inr ⟨g, cap, cur, rfl, hB, ?_, h3, h4, h5, h6⟩⟩
    rw [hg.block g (Array.getElem?_eq_some_iff.1 hc).1 (fun e2 => ?_)]
    · exact hc
    · obtain ⟨-, ⟨rfl, -⟩ | ⟨g', cap', cur', rfl, -, hc', -⟩⟩ := h'
      · cases e2
      · injection e2 with e2
        subst e2
        rw [hc] at hc'
        injection hc' with hc'
        injection hc' with _ hc'
        exact hne hc'
theorem own_ne {W : World} {B e k n : Nat} {v : Value} {xs : List Value} (h : W.ownsRow B e k v n xs) : some W.heap.size ≠ v.ownBlock := by
  obtain ⟨-, ⟨rfl, -⟩ | ⟨g', cap', cur', rfl, -, hc', -⟩⟩ := h
  · intro e2; cases e2
  · intro e2
    injection e2 with e2
    have := (Array.getElem?_eq_some_iff.1 hc').1
    exact absurd this (by show ¬ g' < W.heap.size; have : W.heap.size = g' := e2; omega)
set_option maxRecDepth 100000 in
set_option maxHeartbeats 6400000 in
theorem things_any (x : WA) (w : World) (h : x.At w) :
    Calls Tryz.prog 82 #[x.v] w fun e w' => (∃ v1 v2, e = .returned (.tuple #[v1, v2]) ∧ OTh w' (w.heap.size + 1) v1 (x.ps.map Pf.th ++ x.rs.map Pf.th) ∧ OI w' (w.heap.size + 1) v2 (x.ps.map (·.ch) ++ x.rs.map (·.ch))) ∧ Below w.heap.size w w' := by
  have n2 := h.n2
  have n3 := h.n3
  have H2 := Lib.hid h.ps
  have H3 := Lib.hid h.rs
  clear h
  obtain ⟨cs, ps, rs, q1, q2, q3, c1, c2, c3⟩ := x
  simp only [WA.v] at *
  go_enter Tryz.func82, Tryz.ntmps82
  go_wp2_with fail
  obtain ⟨W0, hW0⟩ : ∃ W0, (w).alloc (.cells #[.slice q1 cs.length c1, .slice q2 ps.length c2, .slice q3 rs.length c3] 26) = W0 := ⟨_, rfl⟩
  have S0 : St w W0 [(w.heap.size, 0, .slice q1 cs.length c1), (w.heap.size, 1, .slice q2 ps.length c2), (w.heap.size, 2, .slice q3 rs.length c3)] := by rw [← hW0]; exact ((St.nil w)).box #[.slice q1 cs.length c1, .slice q2 ps.length c2, .slice q3 rs.length c3] 26 (w.heap.size) (by simp)
  rw [hW0]
  clear hW0
  obtain ⟨C, hC0, HC, LC, BC, hne⟩ := cls S0
  haveI := hne
  obtain ⟨c0, rfl⟩ : ∃ n : Wd C, W0 = n.w := ⟨⟨_, hC0⟩, rfl⟩
  have fC0 : ∀ n : Wd C, n.w.cell? ⟨w.heap.size, 0, none⟩ = some (.slice q1 cs.length c1) := fun n => (LC.out n).1.2.1
  have fC1 : ∀ n : Wd C, n.w.cell? ⟨w.heap.size, 1, none⟩ = some (.slice q2 ps.length c2) := fun n => (LC.out n).2.1.2.1
  have fC2 : ∀ n : Wd C, n.w.cell? ⟨w.heap.size, 2, none⟩ = some (.slice q3 rs.length c3) := fun n => (LC.out n).2.2.1.2.1
  clear S0 hC0
  go_loopw [4, 5, 6] (fun a b i wr => ∃ (k : Nat), St w wr [(w.heap.size, 0, .slice q1 cs.length c1), (w.heap.size, 1, .slice q2 ps.length c2), (w.heap.size, 2, .slice q3 rs.length c3)] ∧ i = .int .i64 (k : Int) ∧ k ≤ ps.length ∧ OTh wr (w.heap.size + 1) a ((ps.take k).map Pf.th) ∧ OI wr (w.heap.size + 1) b ((ps.take k).map (·.ch))) (fun a b i wr => ps.length - (intOf i).toNat)
  case atStart => exact ⟨0, ⟨BC.out _, LC.out _⟩, rfl, Nat.zero_le _, World.ownsRow_nil _ _ _ _, World.ownsRow_nil _ _ _ _⟩
  case round =>
    obtain ⟨k, hS, rfl, hk, hO, hI⟩ := hrel
    have HO := Lib.hid hO
    have HI := Lib.hid hI
    have HS := Lib.hid hS
    obtain ⟨⟨hz, f0, -⟩, ⟨-, f1, -⟩, ⟨-, f2, -⟩, -⟩ := hS.c
    clear fC0 fC1 fC2 hO hI
    by_cases hlt : k < ps.length
    · rcases H2.out with h0 | ⟨b, o, rfl, hb, hc⟩
      · exact absurd hlt (by simp [show ps = [] from h0])
      · obtain ⟨d1, d2, d3, d4, d5⟩ := hc k ps[k] (List.getElem?_eq_getElem hlt)
        have b1 := (hS.b.cell (p := ⟨b, o + k * 5, none⟩) hb).trans d1
        have b2 := (hS.b.cell (p := ⟨b, o + k * 5 + 1, none⟩) hb).trans d2
        have b3 := (hS.b.cell (p := ⟨b, o + k * 5 + 2, none⟩) hb).trans d3
        have b4 := (hS.b.cell (p := ⟨b, o + k * 5 + 3, none⟩) hb).trans d4
        have b5 := (hS.b.cell (p := ⟨b, o + k * 5 + 4, none⟩) hb).trans d5
        have HN : Hid ((ps.take (k + 1)).map Pf.th = (ps.take k).map Pf.th ++ [⟨ps[k].id, ps[k].year, ps[k].lo, ps[k].hi⟩]) := by unfold Hid; rw [take_snocG ps k hlt, List.map_append]; rfl
        have HN2 : Hid ((ps.take (k + 1)).map (·.ch) = (ps.take k).map (·.ch) ++ [ps[k].ch]) := by unfold Hid; rw [take_snocG ps k hlt, List.map_append]; rfl
        have HL : Hid (((ps.take k).map Pf.th).length ≤ 1000000) := by unfold Hid; simp; omega
        have HL2 : Hid (((ps.take k).map (·.ch)).length ≤ 1000000) := by unfold Hid; simp; omega
        obtain ⟨p, hp⟩ : ∃ p, ps[k] = p := ⟨_, rfl⟩
        simp only [show ps[k] = p from hp] at b1 b2 b3 b4 b5 HN HN2
        have hlt' : (k : Int) < (ps.length : Int) := by omega
        clear d1 d2 d3 d4 d5 hc hb hS hp
        have HA := Lib.hid (below_al wr (.cells #[.int .i64 p.id, .int .i64 p.ch, .int .i64 p.year, .int .i64 p.lo, .int .i64 p.hi] 94))
        have HO1 := Lib.hid (ownsRow_keep HO.out HA.out)
        have HI1 := Lib.hid (ownsRow_keep HI.out HA.out)
        have HS1 := Lib.hid (HS.out.next HA.out)
        have HSz := Lib.hid (Nat.succ_le_of_lt HS1.out.c.1.1)
        go_wp2_with (first
          | (at_builtin; refine appH HO1.out HSz.out ⟨p.id, p.year, p.lo, p.hi⟩ HL.out rfl _ _ rfl rfl (by rw [World.size_alloc]; rfl) ?_; intro v' w2 hO2 hg2; have HO2 := Lib.hid hO2; have HI2 := Lib.hid (rows_apart HI1.out HO1.out (by decide) hg2); have HS2 := Lib.hid (St.grown HS1.out HO1.out hg2 (Nat.le_succ _) (by simp)); have e1 := (World.cell?_of_block (a := ⟨wr.heap.size, 1, none⟩) (hg2.block wr.heap.size (by simp) (own_ne HO.out))).trans (new_at wr #[.int .i64 p.id, .int .i64 p.ch, .int .i64 p.year, .int .i64 p.lo, .int .i64 p.hi] 94 1 _ rfl); clear hO2 hg2)
          | (at_builtin; refine appI HI2.out (Nat.succ_le_of_lt HS2.out.c.1.1) p.ch HL2.out rfl _ _ rfl rfl rfl ?_; intro v'' w3 hI3 hg3))
        go_roundw
        case rel => exact ⟨k + 1, HS2.out.grown HI2.out hg3 (Nat.le_succ _) (by simp), by simp, hlt, by rw [HN.out]; exact rows_apart HO2.out HI2.out (by decide) hg3, by rw [HN2.out]; exact hI3⟩
        case measure => simp [intOf]; omega
    · obtain rfl : k = ps.length := by omega
      rw [List.take_length] at HO HI
      clear hS
      go_wp2_with fail
      clear f0 f1 f2
      go_loopw [4, 5, 8] (fun a b i wr => ∃ (k : Nat), St w wr [(w.heap.size, 0, .slice q1 cs.length c1), (w.heap.size, 1, .slice q2 ps.length c2), (w.heap.size, 2, .slice q3 rs.length c3)] ∧ i = .int .i64 (k : Int) ∧ k ≤ rs.length ∧ OTh wr (w.heap.size + 1) a (ps.map Pf.th ++ (rs.take k).map Pf.th) ∧ OI wr (w.heap.size + 1) b (ps.map (·.ch) ++ (rs.take k).map (·.ch))) (fun a b i wr => rs.length - (intOf i).toNat)
      case atStart => exact ⟨0, HS.out, rfl, Nat.zero_le _, by simpa using HO.out, by simpa using HI.out⟩
      case round =>
        clear HO HI HS hz
        obtain ⟨k, hS, rfl, hk, hO, hI⟩ := hrel
        have HO := Lib.hid hO
        have HI := Lib.hid hI
        have HS := Lib.hid hS
        obtain ⟨⟨hz, f0, -⟩, ⟨-, f1, -⟩, ⟨-, f2, -⟩, -⟩ := hS.c
        clear hO hI
        by_cases hlt : k < rs.length
        · rcases H3.out with h0 | ⟨b, o, rfl, hb, hc⟩
          · exact absurd hlt (by simp [show rs = [] from h0])
          · obtain ⟨d1, d2, d3, d4, d5⟩ := hc k rs[k] (List.getElem?_eq_getElem hlt)
            have b1 := (hS.b.cell (p := ⟨b, o + k * 5, none⟩) hb).trans d1
            have b2 := (hS.b.cell (p := ⟨b, o + k * 5 + 1, none⟩) hb).trans d2
            have b3 := (hS.b.cell (p := ⟨b, o + k * 5 + 2, none⟩) hb).trans d3
            have b4 := (hS.b.cell (p := ⟨b, o + k * 5 + 3, none⟩) hb).trans d4
            have b5 := (hS.b.cell (p := ⟨b, o + k * 5 + 4, none⟩) hb).trans d5
            have HN : Hid (ps.map Pf.th ++ (rs.take (k + 1)).map Pf.th = (ps.map Pf.th ++ (rs.take k).map Pf.th) ++ [⟨rs[k].id, rs[k].year, rs[k].lo, rs[k].hi⟩]) := by unfold Hid; rw [take_snocG rs k hlt, List.map_append, List.append_assoc]; rfl
            have HN2 : Hid (ps.map (·.ch) ++ (rs.take (k + 1)).map (·.ch) = (ps.map (·.ch) ++ (rs.take k).map (·.ch)) ++ [rs[k].ch]) := by unfold Hid; rw [take_snocG rs k hlt, List.map_append, List.append_assoc]; rfl
            have HL : Hid ((ps.map Pf.th ++ (rs.take k).map Pf.th).length ≤ 1000000) := by unfold Hid; simp; omega
            have HL2 : Hid ((ps.map (·.ch) ++ (rs.take k).map (·.ch)).length ≤ 1000000) := by unfold Hid; simp; omega
            obtain ⟨p, hp⟩ : ∃ p, rs[k] = p := ⟨_, rfl⟩
            simp only [show rs[k] = p from hp] at b1 b2 b3 b4 b5 HN HN2
            have hlt' : (k : Int) < (rs.length : Int) := by omega
            clear d1 d2 d3 d4 d5 hc hb hS hp
            have HA := Lib.hid (below_al wr (.cells #[.int .i64 p.id, .int .i64 p.ch, .int .i64 p.year, .int .i64 p.lo, .int .i64 p.hi] 104))
            have HO1 := Lib.hid (ownsRow_keep HO.out HA.out)
            have HI1 := Lib.hid (ownsRow_keep HI.out HA.out)
            have HS1 := Lib.hid (HS.out.next HA.out)
            have HSz := Lib.hid (Nat.succ_le_of_lt HS1.out.c.1.1)
            go_wp2_with (first
              | (at_builtin; refine appH HO1.out HSz.out ⟨p.id, p.year, p.lo, p.hi⟩ HL.out rfl _ _ rfl rfl (by rw [World.size_alloc]; rfl) ?_; intro v' w2 hO2 hg2; have HO2 := Lib.hid hO2; have HI2 := Lib.hid (rows_apart HI1.out HO1.out (by decide) hg2); have HS2 := Lib.hid (St.grown HS1.out HO1.out hg2 (Nat.le_succ _) (by simp)); have e1 := (World.cell?_of_block (a := ⟨wr.heap.size, 1, none⟩) (hg2.block wr.heap.size (by simp) (own_ne HO.out))).trans (new_at wr #[.int .i64 p.id, .int .i64 p.ch, .int .i64 p.year, .int .i64 p.lo, .int .i64 p.hi] 104 1 _ rfl); clear hO2 hg2)
              | (at_builtin; refine appI HI2.out (Nat.succ_le_of_lt HS2.out.c.1.1) p.ch HL2.out rfl _ _ rfl rfl rfl ?_; intro v'' w3 hI3 hg3))
            go_roundw
            case rel => exact ⟨k + 1, HS2.out.grown HI2.out hg3 (Nat.le_succ _) (by simp), by simp, hlt, by rw [HN.out]; exact rows_apart HO2.out HI2.out (by decide) hg3, by rw [HN2.out]; exact hI3⟩
            case measure => simp [intOf]; omega
        · obtain rfl : k = rs.length := by omega
          rw [List.take_length] at HO HI
          clear hS
          go_wp2_with fail
          go_ret2
          exact ⟨⟨_, _, rfl, HO.out, HI.out⟩, HS.out.b⟩
end Go.Proofs.YtcejmfgbfdhflaaGreat
