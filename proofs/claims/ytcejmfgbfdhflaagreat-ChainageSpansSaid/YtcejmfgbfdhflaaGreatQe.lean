import Derived.Test.YtcejmfgbfdhflaaGreatQd
import Derived.WalkKit
import Derived.LoopTactic
import Derived.WalkSpells
import Derived.WalkLawsBesides
import Derived.Lib.Hide
import Derived.BigQuiet
import Derived.IntWalk
import Derived.Deep.DeepMust
import Derived.WalkSmall
import Derived.StillTailTactics
import Derived.Deep.RegionLaw
import Derived.Deep.RegionHeld3
import Derived.Deep.QuietTactic
/-
  Dj Dl Dm Dn Do Dp Dq Dr Dt Dv Dw Dx: merged.
-/
namespace Go.Proofs.YtcejmfgbfdhflaaGreat
open Go.RowKit Go.Shelf Go.BigFrame Go.Sort
attribute [local go_sem] World.cell?_alloc_some
set_option maxHeartbeats 400000 in
theorem rin_any (n lo hi : Int) (w : World) : Calls Tryz.prog 72 #[.int .i64 n, .int .i64 lo, .int .i64 hi] w fun e w' => e = .returned (.bool (inB lo hi n)) ∧ w = w' := by
  go_enter Tryz.func72, Tryz.ntmps72
  by_cases h : lo ≤ n
  · have h0 : decide (lo ≤ n) = true := by simpa using h
    go_wp2_with fail
    all_goals (go_ret; exact ⟨ret_bool (by (try simp_all [inB]); try (intros; omega)), rfl⟩)
  · have h0 : decide (lo ≤ n) = false := by simpa using h
    go_wp2_with fail
    all_goals (go_ret; exact ⟨ret_bool (by (try simp_all [inB]); try (intros; omega)), rfl⟩)
set_option maxHeartbeats 400000 in
theorem rlong_any (lo hi : Int) (w : World) : Calls Tryz.prog 143 #[spv lo hi, .int .i64 9000, .int .i64 12000] w fun e w' => e = .returned (.bool (okLong lo hi)) ∧ Gr w w' := by
  go_enter Tryz.func143, Tryz.ntmps143
  go_wp2_with fail
  all_goals (go_ret; exact ⟨ret_bool (by simp_all [okLong, insB]; try omega), Gr.al _ _⟩)
/-- What chainAt gives. -/
def AtI (l : List Ch) (id m : Int) : Prop := ((chF l id).isSome = false ∧ m = -1) ∨ ∃ k : Nat, ∃ h : k < l.length, m = (k : Int) ∧ chF l id = some l[k]
set_option maxRecDepth 100000 in
set_option maxHeartbeats 1600000 in
theorem chainAt_any (x : WA) (id : Int) (w : World) (h : x.At w) :
    Calls Tryz.prog 71 #[x.v, .int .i64 id] w fun e w' => (∃ m : Int, e = .returned (.int .i64 m) ∧ AtI x.cs id m) ∧ Below w.heap.size w w' := by
  have H := Lib.hid h.cs
  have n1 := h.n1
  have k1 := h.k1
  clear h
  obtain ⟨cs, ps, rs, q1, q2, q3, c1, c2, c3⟩ := x
  simp only [WA.v] at *
  go_enter Tryz.func71, Tryz.ntmps71
  go_wp2_with fail
  obtain ⟨W0, hW0⟩ : ∃ W0, (w).alloc (.cells #[.slice q1 cs.length c1, .slice q2 ps.length c2, .slice q3 rs.length c3] 26) = W0 := ⟨_, rfl⟩
  have S0 : St w W0 [(w.heap.size, 0, .slice q1 cs.length c1), (w.heap.size, 1, .slice q2 ps.length c2), (w.heap.size, 2, .slice q3 rs.length c3)] := by rw [← hW0]; exact ((St.nil w)).box #[.slice q1 cs.length c1, .slice q2 ps.length c2, .slice q3 rs.length c3] 26 (w.heap.size) (by simp)
  rw [hW0]
  clear hW0
  obtain ⟨C, hC0, HC, LC, BC, hne⟩ := cls S0
  haveI := hne
  obtain ⟨c0, rfl⟩ : ∃ n : Wd C, W0 = n.w := ⟨⟨_, hC0⟩, rfl⟩
  have fC0 : ∀ n : Wd C, n.w.cell? ⟨w.heap.size, 0, none⟩ = some (.slice q1 cs.length c1) := fun n => (LC.out n).1.2.1
  have fC1 : ∀ n : Wd C, n.w.cell? ⟨w.heap.size, 1, none⟩ = some (.slice q2 ps.length c2) := fun n => (LC.out n).2.1.2.1
  have fC2 : ∀ n : Wd C, n.w.cell? ⟨w.heap.size, 2, none⟩ = some (.slice q3 rs.length c3) := fun n => (LC.out n).2.2.1.2.1
  clear S0 hC0
  go_loopw [5] (fun i wr => wr = c0.w ∧ ∃ (k : Nat), i = .int .i64 (k : Int) ∧ k ≤ cs.length ∧ ∀ j, (hj : j < cs.length) → j < k → cs[j].id ≠ id) (fun i wr => cs.length - (intOf i).toNat)
  case atStart => exact ⟨rfl, 0, rfl, Nat.zero_le _, fun j _ h => absurd h (by omega)⟩
  case round =>
    obtain ⟨rfl, k, rfl, hk, ha⟩ := hrel
    have HA := Lib.hid ha
    clear ha
    by_cases hlt : k < cs.length
    · rcases H.out with h0 | ⟨b, o, rfl, hb, hc⟩
      · exact absurd hlt (by simp [show cs = [] from h0])
      · obtain ⟨d1, -⟩ := hc k cs[k] (List.getElem?_eq_getElem hlt)
        have b1 := ((BC.out c0).cell (p := ⟨b, o + k * 5, none⟩) hb).trans d1
        have HX := Lib.hid hlt
        obtain ⟨cc, hc0⟩ : ∃ c, cs[k] = c := ⟨_, rfl⟩
        replace b1 : c0.w.cell? ⟨b, o + k * 5, none⟩ = some (.int .i64 cc.id) := by rw [← hc0]; exact b1
        have hcc : cs[k].id = cc.id := by rw [hc0]
        obtain ⟨c, hcd⟩ : ∃ c, cc.id = c := ⟨_, rfl⟩
        rw [hcd] at hcc b1
        have HC2 := Lib.hid hcc
        have hlt' : (k : Int) < (cs.length : Int) := by omega
        clear d1 hc hcc hb hc0 hcd
        by_cases he : c = id
        · subst he
          go_wp2_with fail
          go_ret
          exact ⟨⟨k, rfl, .inr ⟨k, hlt, rfl, chF_hit hlt (fun j hj hjk => HA.out j hj hjk) HC2.out⟩⟩, BC.out _⟩
        · have he' : (c == id) = false := by simpa using he
          have HE := Lib.hid he
          clear he
          go_wp2_with fail
          go_roundw
          case rel => exact ⟨by first | rfl | trivial, k + 1, by simp, hlt, fun j hj hjk => by
            by_cases e : j = k
            · subst e; exact fun e2 => HE.out (HC2.out.symm.trans e2)
            · exact HA.out j hj (by omega)⟩
          case measure => simp [intOf]; omega
    · obtain rfl : k = cs.length := by omega
      go_wp2_with fail
      go_ret
      exact ⟨⟨-1, rfl, .inl ⟨by
        unfold chF
        rw [Option.isSome_eq_false_iff, Option.isNone_iff_eq_none, List.find?_eq_none]
        intro c hc e
        obtain ⟨j, hj, rfl⟩ := List.getElem_of_mem hc
        exact HA.out j hj hj (by simpa using e), rfl⟩⟩, BC.out _⟩
set_option maxRecDepth 100000 in
set_option maxHeartbeats 6400000 in
theorem rchains_any (q : Option Addr) (cap : Nat) (l : List Ch) (w : World) (hl : l.length ≤ 1000) (h : ChsAt w q l) :
    Calls Tryz.prog 81 #[.slice q l.length cap] w fun e w' => e = .returned (.int .i64 (chkCs [] l)) ∧ Below w.heap.size w w' := by
  have H := Lib.hid h
  obtain ⟨E, hE⟩ : ∃ E, chkCs [] l = E := ⟨_, rfl⟩
  have HE := Lib.hid hE
  rw [hE]
  clear h hE
  go_enter Tryz.func81, Tryz.ntmps81
  go_wp2_with fail
  go_loopw [3] (fun i wr => ∃ (k : Nat), Below w.heap.size w wr ∧ i = .int .i64 (k : Int) ∧ k ≤ l.length ∧ Hid (chkCs (l.take k) (l.drop k) = E)) (fun i wr => l.length - (intOf i).toNat)
  case atStart => exact ⟨0, Below.refl _ _, rfl, Nat.zero_le _, HE⟩
  case round =>
    obtain ⟨k, hG, rfl, hk, HI⟩ := hrel
    have HG := Lib.hid hG
    by_cases hlt : k < l.length
    · have HI2 : Hid (_ = E) := (chkCs_step l k hlt).symm.trans HI.out
      clear HI
      rcases H.out with h0 | ⟨b, o, rfl, hb, hc⟩
      · exact absurd hlt (by simp [h0])
      · obtain ⟨c1, c2, c3, c4, c5⟩ := hc k l[k] (List.getElem?_eq_getElem hlt)
        have b1 := (hG.cell (p := ⟨b, o + k * 5, none⟩) hb).trans c1
        have b2 := (hG.cell (p := ⟨b, o + k * 5 + 1, none⟩) hb).trans c2
        have b3 := (hG.cell (p := ⟨b, o + k * 5 + 2, none⟩) hb).trans c3
        have b4 := (hG.cell (p := ⟨b, o + k * 5 + 3, none⟩) hb).trans c4
        have b5 := (hG.cell (p := ⟨b, o + k * 5 + 4, none⟩) hb).trans c5
        obtain ⟨c, hcc⟩ : ∃ c, l[k] = c := ⟨_, rfl⟩
        rw [hcc] at b1 b2 b3 b4 b5 HI2
        have hlt' : (k : Int) < (l.length : Int) := by omega
        have C1 := fun W => Lib.hid (rin_any c.id 1 1099511627776 W)
        have C2 := fun W => Lib.hid (rin_any c.year 0 4000 W)
        have C3 := fun W => Lib.hid (rlong_any c.lo c.hi W)
        have C4 := fun W => Lib.hid (rin_any c.wear 0 1000 W)
        obtain ⟨x1, h1⟩ : ∃ b, inB 1 1099511627776 c.id = b := ⟨_, rfl⟩
        obtain ⟨x2, h2⟩ : ∃ b, inB 0 4000 c.year = b := ⟨_, rfl⟩
        obtain ⟨x3, h3⟩ : ∃ b, okLong c.lo c.hi = b := ⟨_, rfl⟩
        obtain ⟨x4, h4⟩ : ∃ b, inB 0 1000 c.wear = b := ⟨_, rfl⟩
        simp only [h1] at C1
        simp only [h2] at C2
        simp only [h3] at C3
        simp only [h4] at C4
        have ho : okCh c = (x1 && (x2 && (x3 && x4))) := by rw [okCh, okId, h1, h2, h3, h4]
        rw [ho] at HI2
        clear c1 c2 c3 c4 c5 hcc h1 h2 h3 h4 ho
        cases x1
        · skip
          obtain rfl : 1 = E := by have := HI2.out; simpa using this
          clear hG
          go_wp2_with (first | (go_at_call 72; with_reducible refine (C1 _).out.mono ?_; rintro e w' ⟨rfl, rfl⟩) | (go_at_call 72; with_reducible refine (C2 _).out.mono ?_; rintro e w' ⟨rfl, rfl⟩) | (go_at_call 143; refine (C3 _).out.mono ?_; rintro e w3 ⟨rfl, hg⟩; have f4 := (hg.below.cell (p := ⟨wr.heap.size, 4, none⟩) (by simp)).trans (new_at wr #[.int .i64 c.id, .int .i64 c.year, .int .i64 c.lo, .int .i64 c.hi, .int .i64 c.wear] 90 4 _ rfl); have f0 := (hg.below.cell (p := ⟨wr.heap.size, 0, none⟩) (by simp)).trans (new_at wr #[.int .i64 c.id, .int .i64 c.year, .int .i64 c.lo, .int .i64 c.hi, .int .i64 c.wear] 90 0 _ rfl); have HB3 : Hid (Below wr.heap.size wr w3) := (below_al _ _).trans (hg.below.mono (by simp)); have hsz : wr.heap.size < w3.heap.size := Nat.lt_of_lt_of_le (by simp) hg.below.size; clear hg) | (go_at_call 72; with_reducible refine (C4 _).out.mono ?_; rintro e w' ⟨rfl, rfl⟩))
          go_ret
          exact ⟨rfl, HG.out.trans ((below_al _ _).mono HG.out.size)⟩
        cases x2
        · skip
          obtain rfl : 1 = E := by have := HI2.out; simpa using this
          clear hG
          go_wp2_with (first | (go_at_call 72; with_reducible refine (C1 _).out.mono ?_; rintro e w' ⟨rfl, rfl⟩) | (go_at_call 72; with_reducible refine (C2 _).out.mono ?_; rintro e w' ⟨rfl, rfl⟩) | (go_at_call 143; refine (C3 _).out.mono ?_; rintro e w3 ⟨rfl, hg⟩; have f4 := (hg.below.cell (p := ⟨wr.heap.size, 4, none⟩) (by simp)).trans (new_at wr #[.int .i64 c.id, .int .i64 c.year, .int .i64 c.lo, .int .i64 c.hi, .int .i64 c.wear] 90 4 _ rfl); have f0 := (hg.below.cell (p := ⟨wr.heap.size, 0, none⟩) (by simp)).trans (new_at wr #[.int .i64 c.id, .int .i64 c.year, .int .i64 c.lo, .int .i64 c.hi, .int .i64 c.wear] 90 0 _ rfl); have HB3 : Hid (Below wr.heap.size wr w3) := (below_al _ _).trans (hg.below.mono (by simp)); have hsz : wr.heap.size < w3.heap.size := Nat.lt_of_lt_of_le (by simp) hg.below.size; clear hg) | (go_at_call 72; with_reducible refine (C4 _).out.mono ?_; rintro e w' ⟨rfl, rfl⟩))
          go_ret
          exact ⟨rfl, HG.out.trans ((below_al _ _).mono HG.out.size)⟩
        cases x3
        · skip
          obtain rfl : 1 = E := by have := HI2.out; simpa using this
          clear hG
          go_wp2_with (first | (go_at_call 72; with_reducible refine (C1 _).out.mono ?_; rintro e w' ⟨rfl, rfl⟩) | (go_at_call 72; with_reducible refine (C2 _).out.mono ?_; rintro e w' ⟨rfl, rfl⟩) | (go_at_call 143; refine (C3 _).out.mono ?_; rintro e w3 ⟨rfl, hg⟩; have f4 := (hg.below.cell (p := ⟨wr.heap.size, 4, none⟩) (by simp)).trans (new_at wr #[.int .i64 c.id, .int .i64 c.year, .int .i64 c.lo, .int .i64 c.hi, .int .i64 c.wear] 90 4 _ rfl); have f0 := (hg.below.cell (p := ⟨wr.heap.size, 0, none⟩) (by simp)).trans (new_at wr #[.int .i64 c.id, .int .i64 c.year, .int .i64 c.lo, .int .i64 c.hi, .int .i64 c.wear] 90 0 _ rfl); have HB3 : Hid (Below wr.heap.size wr w3) := (below_al _ _).trans (hg.below.mono (by simp)); have hsz : wr.heap.size < w3.heap.size := Nat.lt_of_lt_of_le (by simp) hg.below.size; clear hg) | (go_at_call 72; with_reducible refine (C4 _).out.mono ?_; rintro e w' ⟨rfl, rfl⟩))
          go_ret
          exact ⟨rfl, HG.out.trans (HB3.out.mono HG.out.size)⟩
        cases x4
        · skip
          obtain rfl : 1 = E := by have := HI2.out; simpa using this
          clear hG
          go_wp2_with (first | (go_at_call 72; with_reducible refine (C1 _).out.mono ?_; rintro e w' ⟨rfl, rfl⟩) | (go_at_call 72; with_reducible refine (C2 _).out.mono ?_; rintro e w' ⟨rfl, rfl⟩) | (go_at_call 143; refine (C3 _).out.mono ?_; rintro e w3 ⟨rfl, hg⟩; have f4 := (hg.below.cell (p := ⟨wr.heap.size, 4, none⟩) (by simp)).trans (new_at wr #[.int .i64 c.id, .int .i64 c.year, .int .i64 c.lo, .int .i64 c.hi, .int .i64 c.wear] 90 4 _ rfl); have f0 := (hg.below.cell (p := ⟨wr.heap.size, 0, none⟩) (by simp)).trans (new_at wr #[.int .i64 c.id, .int .i64 c.year, .int .i64 c.lo, .int .i64 c.hi, .int .i64 c.wear] 90 0 _ rfl); have HB3 : Hid (Below wr.heap.size wr w3) := (below_al _ _).trans (hg.below.mono (by simp)); have hsz : wr.heap.size < w3.heap.size := Nat.lt_of_lt_of_le (by simp) hg.below.size; clear hg) | (go_at_call 72; with_reducible refine (C4 _).out.mono ?_; rintro e w' ⟨rfl, rfl⟩))
          go_ret
          exact ⟨rfl, HG.out.trans (HB3.out.mono HG.out.size)⟩
        · obtain ⟨z, hz⟩ : ∃ z, (chF (l.take k) c.id).isSome = z := ⟨_, rfl⟩
          rw [hz] at HI2
          have HZ := Lib.hid hz
          have hbn : b ≠ wr.heap.size := by have := hG.size; omega
          have HHC := Lib.hid hc
          have HHB := Lib.hid hb
          clear hz hG hc hb
          go_upto_region 8 with (first | (go_at_call 72; with_reducible refine (C1 _).out.mono ?_; rintro e w' ⟨rfl, rfl⟩) | (go_at_call 72; with_reducible refine (C2 _).out.mono ?_; rintro e w' ⟨rfl, rfl⟩) | (go_at_call 143; refine (C3 _).out.mono ?_; rintro e w3 ⟨rfl, hg⟩; have f4 := (hg.below.cell (p := ⟨wr.heap.size, 4, none⟩) (by simp)).trans (new_at wr #[.int .i64 c.id, .int .i64 c.year, .int .i64 c.lo, .int .i64 c.hi, .int .i64 c.wear] 90 4 _ rfl); have f0 := (hg.below.cell (p := ⟨wr.heap.size, 0, none⟩) (by simp)).trans (new_at wr #[.int .i64 c.id, .int .i64 c.year, .int .i64 c.lo, .int .i64 c.hi, .int .i64 c.wear] 90 0 _ rfl); have HB3 : Hid (Below wr.heap.size wr w3) := (below_al _ _).trans (hg.below.mono (by simp)); have hsz : wr.heap.size < w3.heap.size := Nat.lt_of_lt_of_le (by simp) hg.below.size; clear hg) | (go_at_call 72; with_reducible refine (C4 _).out.mono ?_; rintro e w' ⟨rfl, rfl⟩))
          have HF0 := Lib.hid f0
          clear f0 f4 b1 b2 b3 b4 b5
          go_loopw [5] (fun i wr2 => ∃ (j : Nat), Below w3.heap.size w3 wr2 ∧ i = .int .i64 (j : Int) ∧ j ≤ k ∧ ∀ j', (hj : j' < l.length) → j' < j → l[j'].id ≠ c.id) (fun i wr2 => k - (intOf i).toNat)
          case atStart => exact ⟨0, Below.refl _ _, rfl, Nat.zero_le _, fun j _ h => absurd h (by omega)⟩
          case round =>
            obtain ⟨j, hB2, rfl, hj, ha⟩ := hrel
            have HA := Lib.hid ha
            have HB2 := Lib.hid hB2
            clear ha
            by_cases hlt2 : j < k
            · have hjl : j < l.length := by omega
              have d1 := (HHC.out j l[j] (List.getElem?_eq_getElem hjl)).1
              have hB4 : Below w.heap.size w wr := (HG.out.trans (HB3.out.mono HG.out.size)).trans (hB2.mono (Nat.le_trans HG.out.size HB3.out.size))
              have b1 := (hB4.cell (p := ⟨b, o + j * 5, none⟩) HHB.out).trans d1
              have g0 := (hB2.cell hsz).trans HF0.out
              obtain ⟨cc, hcc⟩ : ∃ c, l[j].id = c := ⟨_, rfl⟩
              rw [hcc] at b1
              have HCC := Lib.hid hcc
              have hlt2' : (j : Int) < (k : Int) := by omega
              have hjl' : (j : Int) < (l.length : Int) := by omega
              clear d1 hcc
              by_cases he : cc = c.id
              · subst he
                cases z
                · exact absurd HCC.out (by
                    have := HZ.out
                    unfold chF at this
                    rw [Option.isSome_eq_false_iff, Option.isNone_iff_eq_none, List.find?_eq_none] at this
                    have h5 := this l[j] (List.mem_iff_getElem?.2 ⟨j, by rw [List.getElem?_take_of_lt hlt2]; exact List.getElem?_eq_getElem hjl⟩)
                    simpa using h5)
                · obtain rfl : 6 = E := by have := HI2.out; simpa using this
                  clear hB2 hB4
                  go_upto_region 10 with fail
                  go_quiet (fail)
                  go_wp2_with fail
                  go_ret
                  exact ⟨rfl, (HG.out.trans (HB3.out.mono HG.out.size)).trans ((HB2.out.trans ((show Gr wr (wr.drewN nq) from ⟨nq, #[], by rw [grow_empty]⟩).below.mono HB2.out.size)).mono (Nat.le_trans HG.out.size HB3.out.size))⟩
              · have he' : (cc == c.id) = false := by simpa using he
                have HE2 := Lib.hid he
                clear he
                clear hB2 hB4
                go_upto_region 10 with fail
                go_quiet (fail)
                go_wp2_with fail
                go_roundw
                case rel => exact ⟨j + 1, HB2.out.trans ((show Gr wr (wr.drewN nq) from ⟨nq, #[], by rw [grow_empty]⟩).below.mono HB2.out.size), by simp, hlt2, fun j' hj' hjk => by
                  by_cases e : j' = j
                  · subst e; exact fun e2 => HE2.out (HCC.out.symm.trans e2)
                  · exact HA.out j' hj' (by omega)⟩
                case measure => simp [intOf]; omega
            · obtain rfl : j = k := by omega
              obtain rfl : z = false := by
                cases z
                · rfl
                · exfalso
                  have := HZ.out
                  unfold chF at this
                  rw [List.find?_isSome] at this
                  obtain ⟨c', hm, he⟩ := this
                  obtain ⟨j', hj'⟩ := List.mem_iff_getElem?.1 hm
                  have hjk : j' < j := by
                    have := (List.getElem?_eq_some_iff.1 hj').1
                    simp at this; omega
                  rw [List.getElem?_take_of_lt hjk] at hj'
                  obtain ⟨hl', hq⟩ := List.getElem?_eq_some_iff.1 hj'
                  exact HA.out j' hl' hjk (by rw [hq]; simpa using he)
              have HI3 : Hid (chkCs (l.take (j + 1)) (l.drop (j + 1)) = E) := by unfold Hid; have := HI2.out; simpa using this
              clear hB2 HI2
              go_wp2_with fail
              go_roundw
              case rel => exact ⟨j + 1, (HG.out.trans (HB3.out.mono HG.out.size)).trans (HB2.out.mono (Nat.le_trans HG.out.size HB3.out.size)), by simp, hlt, HI3⟩
              case measure => simp [intOf]; omega
    · obtain rfl : k = l.length := by omega
      obtain rfl : 0 = E := by have := HI.out; rwa [List.drop_length] at this
      clear hG
      go_wp2_with fail
      go_ret
      exact ⟨rfl, HG.out⟩
end Go.Proofs.YtcejmfgbfdhflaaGreat
namespace Go.Proofs.YtcejmfgbfdhflaaGreat
open Go.RowKit Go.Shelf Go.BigFrame Go.Sort
attribute [local go_sem] World.cell?_alloc_some
/-- The cells of things of the specification. -/
def flat4 : List Th → List Value
  | [] => []
  | t :: l => .int .i64 t.num :: .int .i64 t.year :: .int .i64 t.lo :: .int .i64 t.hi :: flat4 l
theorem flat4_app (l m : List Th) : flat4 (l ++ m) = flat4 l ++ flat4 m := by
  induction l with
  | nil => rfl
  | cons p l ih => simp [flat4, ih]
theorem flat4_one : ∀ {l : List Th}, ∀ u ∈ flat4 l, u.oneCell' = true
  | [], u, h => by simp [flat4] at h
  | p :: l, u, h => by
    simp only [flat4, List.mem_cons] at h
    rcases h with rfl | rfl | rfl | rfl | h
    · rfl
    · rfl
    · rfl
    · rfl
    · exact flat4_one u h
theorem flat4_get : ∀ {l : List Th} {j : Nat} {q : Th}, l[j]? = some q → (flat4 l)[j * 4]? = some (.int .i64 q.num) ∧ (flat4 l)[j * 4 + 1]? = some (.int .i64 q.year) ∧ (flat4 l)[j * 4 + 2]? = some (.int .i64 q.lo) ∧ (flat4 l)[j * 4 + 3]? = some (.int .i64 q.hi)
  | [], _, _, h => by simp at h
  | p :: l, 0, q, h => by
    obtain rfl : p = q := by simpa using h
    exact ⟨rfl, rfl, rfl, rfl⟩
  | p :: l, j + 1, q, h => by
    have ih := flat4_get (l := l) (j := j) (q := q) (by simpa using h)
    rw [show (j + 1) * 4 = j * 4 + 1 + 1 + 1 + 1 from by omega]
    simpa [flat4] using ih
abbrev OTh (W : World) (B : Nat) (v : Value) (l : List Th) : Prop := W.ownsRow B 128 4 v l.length (flat4 l)
theorem inf128 : (Tryz.prog.info? 128).map (fun i => (i.zero, i.size, i.bytes)) = some (some (.agg #[.int .i64 0, .int .i64 0, .int .i64 0, .int .i64 0]), 4, 32) := by kernel_rfl
theorem appH {B : Nat} {v : Value} {l : List Th} {W : World} (hP : OTh W B v l) (hw : B ≤ W.heap.size) (t : Th) (hl : l.length ≤ 1000000) {ops : Array Oper} {rest : List Oper} {o : Oper} {a : Act} {Q : Exit → Act → World → Prop} (hgd : o.guard = none) (s z : Operand)
    (ho : o.op = .call { callee := .builtin .append, args := #[s, z], argTypes := #[123, 123] }) (hs : a.eval s = v) (hx : a.eval z = .slice (some ⟨W.heap.size, 0, none⟩) 1 1)
    (h : ∀ v' w', OTh w' B v' (l ++ [t]) → W.grownBy w' v.ownBlock → wpList Tryz.prog ops Q rest (a.put o.dst v') w') : wpList Tryz.prog ops Q (o :: rest) a (W.alloc (.cells #[.int .i64 t.num, .int .i64 t.year, .int .i64 t.lo, .int .i64 t.hi] 128)) := by
  obtain ⟨i0, hi, hz0, hz1, hz2⟩ := info_parts inf128
  refine wpList_append_own _ hgd s z 123 ho B 128 i0 (.agg #[.int .i64 0, .int .i64 0, .int .i64 0, .int .i64 0]) 4 32 Tryz.underlying123 hi hz0 hz1 hz2 rfl (by decide) v l.length (flat4 l) hs (hP.alloc _) ⟨W.heap.size, 0, none⟩ 1 1 (flat4 [t]) hx rfl ?_ flat4_one ?_ ?_ ?_ ?_
  · intro j u hu
    have hj : j < 4 := (List.getElem?_eq_some_iff.1 hu).1
    have := new_at W #[.int .i64 t.num, .int .i64 t.year, .int .i64 t.lo, .int .i64 t.hi] 128 j u hu
    rwa [show (⟨W.heap.size, 0, none⟩ : Addr).add j = ⟨W.heap.size, j, none⟩ from by simp [Addr.add]; omega]
  · unfold maxLen; omega
  · omega
  · simp; omega
  · intro v' w' ho' hg _
    refine h v' w' ?_ ?_
    · show w'.ownsRow B 128 4 v' (l ++ [t]).length (flat4 (l ++ [t]))
      rw [List.length_append, flat4_app]; exact ho'
    · exact ⟨hg.os, hg.tape, hg.output, by have := hg.size; simp at this; omega, fun k hk hne => (hg.block k (by simp; omega) hne).trans (Below.heap_alloc W _ k hk)⟩
theorem rows_apart {W W' : World} {B e k n : Nat} {v : Value} {xs : List Value} {B' e' k' n' : Nat} {v' : Value} {xs' : List Value} (h : W.ownsRow B e k v n xs) (h' : W.ownsRow B' e' k' v' n' xs') (hne : e ≠ e') (hg : W.grownBy W' v'.ownBlock) : W'.ownsRow B e k v n xs := by
  obtain ⟨h1, h2 | ⟨g, cap, cur, rfl, hB, hc, h3, h4, h5, h6⟩⟩ := h
  · exact ⟨h1, .inl h2⟩
  · refine ⟨h1, .inr ⟨g, cap, cur, rfl, hB, ?_, h3, h4, h5, h6⟩⟩
    rw [hg.block g (Array.getElem?_eq_some_iff.1 hc).1 (fun e2 => ?_)]
    · exact hc
    · obtain ⟨-, ⟨rfl, -⟩ | ⟨g', cap', cur', rfl, -, hc', -⟩⟩ := h'
      · cases e2
      · injection e2 with e2
        subst e2
        rw [hc] at hc'
        injection hc' with hc'
        injection hc' with _ hc'
        exact hne hc'
theorem own_ne {W : World} {B e k n : Nat} {v : Value} {xs : List Value} (h : W.ownsRow B e k v n xs) : some W.heap.size ≠ v.ownBlock := by
  obtain ⟨-, ⟨rfl, -⟩ | ⟨g', cap', cur', rfl, -, hc', -⟩⟩ := h
  · intro e2; cases e2
  · intro e2
    injection e2 with e2
    have := (Array.getElem?_eq_some_iff.1 hc').1
    exact absurd this (by show ¬ g' < W.heap.size; have : W.heap.size = g' := e2; omega)
set_option maxRecDepth 100000 in
set_option maxHeartbeats 6400000 in
theorem things_any (x : WA) (w : World) (h : x.At w) :
    Calls Tryz.prog 82 #[x.v] w fun e w' => (∃ v1 v2, e = .returned (.tuple #[v1, v2]) ∧ OTh w' (w.heap.size + 1) v1 (x.ps.map Pf.th ++ x.rs.map Pf.th) ∧ OI w' (w.heap.size + 1) v2 (x.ps.map (·.ch) ++ x.rs.map (·.ch))) ∧ Below w.heap.size w w' := by
  have n2 := h.n2
  have n3 := h.n3
  have H2 := Lib.hid h.ps
  have H3 := Lib.hid h.rs
  clear h
  obtain ⟨cs, ps, rs, q1, q2, q3, c1, c2, c3⟩ := x
  simp only [WA.v] at *
  go_enter Tryz.func82, Tryz.ntmps82
  go_wp2_with fail
  obtain ⟨W0, hW0⟩ : ∃ W0, (w).alloc (.cells #[.slice q1 cs.length c1, .slice q2 ps.length c2, .slice q3 rs.length c3] 26) = W0 := ⟨_, rfl⟩
  have S0 : St w W0 [(w.heap.size, 0, .slice q1 cs.length c1), (w.heap.size, 1, .slice q2 ps.length c2), (w.heap.size, 2, .slice q3 rs.length c3)] := by rw [← hW0]; exact ((St.nil w)).box #[.slice q1 cs.length c1, .slice q2 ps.length c2, .slice q3 rs.length c3] 26 (w.heap.size) (by simp)
  rw [hW0]
  clear hW0
  obtain ⟨C, hC0, HC, LC, BC, hne⟩ := cls S0
  haveI := hne
  obtain ⟨c0, rfl⟩ : ∃ n : Wd C, W0 = n.w := ⟨⟨_, hC0⟩, rfl⟩
  have fC0 : ∀ n : Wd C, n.w.cell? ⟨w.heap.size, 0, none⟩ = some (.slice q1 cs.length c1) := fun n => (LC.out n).1.2.1
  have fC1 : ∀ n : Wd C, n.w.cell? ⟨w.heap.size, 1, none⟩ = some (.slice q2 ps.length c2) := fun n => (LC.out n).2.1.2.1
  have fC2 : ∀ n : Wd C, n.w.cell? ⟨w.heap.size, 2, none⟩ = some (.slice q3 rs.length c3) := fun n => (LC.out n).2.2.1.2.1
  clear S0 hC0
  go_loopw [4, 5, 6] (fun a b i wr => ∃ (k : Nat), St w wr [(w.heap.size, 0, .slice q1 cs.length c1), (w.heap.size, 1, .slice q2 ps.length c2), (w.heap.size, 2, .slice q3 rs.length c3)] ∧ i = .int .i64 (k : Int) ∧ k ≤ ps.length ∧ OTh wr (w.heap.size + 1) a ((ps.take k).map Pf.th) ∧ OI wr (w.heap.size + 1) b ((ps.take k).map (·.ch))) (fun a b i wr => ps.length - (intOf i).toNat)
  case atStart => exact ⟨0, ⟨BC.out _, LC.out _⟩, rfl, Nat.zero_le _, World.ownsRow_nil _ _ _ _, World.ownsRow_nil _ _ _ _⟩
  case round =>
    obtain ⟨k, hS, rfl, hk, hO, hI⟩ := hrel
    have HO := Lib.hid hO
    have HI := Lib.hid hI
    have HS := Lib.hid hS
    obtain ⟨⟨hz, f0, -⟩, ⟨-, f1, -⟩, ⟨-, f2, -⟩, -⟩ := hS.c
    clear fC0 fC1 fC2 hO hI
    by_cases hlt : k < ps.length
    · rcases H2.out with h0 | ⟨b, o, rfl, hb, hc⟩
      · exact absurd hlt (by simp [show ps = [] from h0])
      · obtain ⟨d1, d2, d3, d4, d5⟩ := hc k ps[k] (List.getElem?_eq_getElem hlt)
        have b1 := (hS.b.cell (p := ⟨b, o + k * 5, none⟩) hb).trans d1
        have b2 := (hS.b.cell (p := ⟨b, o + k * 5 + 1, none⟩) hb).trans d2
        have b3 := (hS.b.cell (p := ⟨b, o + k * 5 + 2, none⟩) hb).trans d3
        have b4 := (hS.b.cell (p := ⟨b, o + k * 5 + 3, none⟩) hb).trans d4
        have b5 := (hS.b.cell (p := ⟨b, o + k * 5 + 4, none⟩) hb).trans d5
        have HN : Hid ((ps.take (k + 1)).map Pf.th = (ps.take k).map Pf.th ++ [⟨ps[k].id, ps[k].year, ps[k].lo, ps[k].hi⟩]) := by unfold Hid; rw [take_snocG ps k hlt, List.map_append]; rfl
        have HN2 : Hid ((ps.take (k + 1)).map (·.ch) = (ps.take k).map (·.ch) ++ [ps[k].ch]) := by unfold Hid; rw [take_snocG ps k hlt, List.map_append]; rfl
        have HL : Hid (((ps.take k).map Pf.th).length ≤ 1000000) := by unfold Hid; simp; omega
        have HL2 : Hid (((ps.take k).map (·.ch)).length ≤ 1000000) := by unfold Hid; simp; omega
        obtain ⟨p, hp⟩ : ∃ p, ps[k] = p := ⟨_, rfl⟩
        simp only [show ps[k] = p from hp] at b1 b2 b3 b4 b5 HN HN2
        have hlt' : (k : Int) < (ps.length : Int) := by omega
        clear d1 d2 d3 d4 d5 hc hb hS hp
        have HA := Lib.hid (below_al wr (.cells #[.int .i64 p.id, .int .i64 p.ch, .int .i64 p.year, .int .i64 p.lo, .int .i64 p.hi] 94))
        have HO1 := Lib.hid (ownsRow_keep HO.out HA.out)
        have HI1 := Lib.hid (ownsRow_keep HI.out HA.out)
        have HS1 := Lib.hid (HS.out.next HA.out)
        have HSz := Lib.hid (Nat.succ_le_of_lt HS1.out.c.1.1)
        go_wp2_with (first
          | (at_builtin; refine appH HO1.out HSz.out ⟨p.id, p.year, p.lo, p.hi⟩ HL.out rfl _ _ rfl rfl (by rw [World.size_alloc]; rfl) ?_; intro v' w2 hO2 hg2; have HO2 := Lib.hid hO2; have HI2 := Lib.hid (rows_apart HI1.out HO1.out (by decide) hg2); have HS2 := Lib.hid (St.grown HS1.out HO1.out hg2 (Nat.le_succ _) (by simp)); have e1 := (World.cell?_of_block (a := ⟨wr.heap.size, 1, none⟩) (hg2.block wr.heap.size (by simp) (own_ne HO.out))).trans (new_at wr #[.int .i64 p.id, .int .i64 p.ch, .int .i64 p.year, .int .i64 p.lo, .int .i64 p.hi] 94 1 _ rfl); clear hO2 hg2)
          | (at_builtin; refine appI HI2.out (Nat.succ_le_of_lt HS2.out.c.1.1) p.ch HL2.out rfl _ _ rfl rfl rfl ?_; intro v'' w3 hI3 hg3))
        go_roundw
        case rel => exact ⟨k + 1, HS2.out.grown HI2.out hg3 (Nat.le_succ _) (by simp), by simp, hlt, by rw [HN.out]; exact rows_apart HO2.out HI2.out (by decide) hg3, by rw [HN2.out]; exact hI3⟩
        case measure => simp [intOf]; omega
    · obtain rfl : k = ps.length := by omega
      rw [List.take_length] at HO HI
      clear hS
      go_wp2_with fail
      clear f0 f1 f2
      go_loopw [4, 5, 8] (fun a b i wr => ∃ (k : Nat), St w wr [(w.heap.size, 0, .slice q1 cs.length c1), (w.heap.size, 1, .slice q2 ps.length c2), (w.heap.size, 2, .slice q3 rs.length c3)] ∧ i = .int .i64 (k : Int) ∧ k ≤ rs.length ∧ OTh wr (w.heap.size + 1) a (ps.map Pf.th ++ (rs.take k).map Pf.th) ∧ OI wr (w.heap.size + 1) b (ps.map (·.ch) ++ (rs.take k).map (·.ch))) (fun a b i wr => rs.length - (intOf i).toNat)
      case atStart => exact ⟨0, HS.out, rfl, Nat.zero_le _, by simpa using HO.out, by simpa using HI.out⟩
      case round =>
        clear HO HI HS hz
        obtain ⟨k, hS, rfl, hk, hO, hI⟩ := hrel
        have HO := Lib.hid hO
        have HI := Lib.hid hI
        have HS := Lib.hid hS
        obtain ⟨⟨hz, f0, -⟩, ⟨-, f1, -⟩, ⟨-, f2, -⟩, -⟩ := hS.c
        clear hO hI
        by_cases hlt : k < rs.length
        · rcases H3.out with h0 | ⟨b, o, rfl, hb, hc⟩
          · exact absurd hlt (by simp [show rs = [] from h0])
          · obtain ⟨d1, d2, d3, d4, d5⟩ := hc k rs[k] (List.getElem?_eq_getElem hlt)
            have b1 := (hS.b.cell (p := ⟨b, o + k * 5, none⟩) hb).trans d1
            have b2 := (hS.b.cell (p := ⟨b, o + k * 5 + 1, none⟩) hb).trans d2
            have b3 := (hS.b.cell (p := ⟨b, o + k * 5 + 2, none⟩) hb).trans d3
            have b4 := (hS.b.cell (p := ⟨b, o + k * 5 + 3, none⟩) hb).trans d4
            have b5 := (hS.b.cell (p := ⟨b, o + k * 5 + 4, none⟩) hb).trans d5
            have HN : Hid (ps.map Pf.th ++ (rs.take (k + 1)).map Pf.th = (ps.map Pf.th ++ (rs.take k).map Pf.th) ++ [⟨rs[k].id, rs[k].year, rs[k].lo, rs[k].hi⟩]) := by unfold Hid; rw [take_snocG rs k hlt, List.map_append, List.append_assoc]; rfl
            have HN2 : Hid (ps.map (·.ch) ++ (rs.take (k + 1)).map (·.ch) = (ps.map (·.ch) ++ (rs.take k).map (·.ch)) ++ [rs[k].ch]) := by unfold Hid; rw [take_snocG rs k hlt, List.map_append, List.append_assoc]; rfl
            have HL : Hid ((ps.map Pf.th ++ (rs.take k).map Pf.th).length ≤ 1000000) := by unfold Hid; simp; omega
            have HL2 : Hid ((ps.map (·.ch) ++ (rs.take k).map (·.ch)).length ≤ 1000000) := by unfold Hid; simp; omega
            obtain ⟨p, hp⟩ : ∃ p, rs[k] = p := ⟨_, rfl⟩
            simp only [show rs[k] = p from hp] at b1 b2 b3 b4 b5 HN HN2
            have hlt' : (k : Int) < (rs.length : Int) := by omega
            clear d1 d2 d3 d4 d5 hc hb hS hp
            have HA := Lib.hid (below_al wr (.cells #[.int .i64 p.id, .int .i64 p.ch, .int .i64 p.year, .int .i64 p.lo, .int .i64 p.hi] 104))
            have HO1 := Lib.hid (ownsRow_keep HO.out HA.out)
            have HI1 := Lib.hid (ownsRow_keep HI.out HA.out)
            have HS1 := Lib.hid (HS.out.next HA.out)
            have HSz := Lib.hid (Nat.succ_le_of_lt HS1.out.c.1.1)
            go_wp2_with (first
              | (at_builtin; refine appH HO1.out HSz.out ⟨p.id, p.year, p.lo, p.hi⟩ HL.out rfl _ _ rfl rfl (by rw [World.size_alloc]; rfl) ?_; intro v' w2 hO2 hg2; have HO2 := Lib.hid hO2; have HI2 := Lib.hid (rows_apart HI1.out HO1.out (by decide) hg2); have HS2 := Lib.hid (St.grown HS1.out HO1.out hg2 (Nat.le_succ _) (by simp)); have e1 := (World.cell?_of_block (a := ⟨wr.heap.size, 1, none⟩) (hg2.block wr.heap.size (by simp) (own_ne HO.out))).trans (new_at wr #[.int .i64 p.id, .int .i64 p.ch, .int .i64 p.year, .int .i64 p.lo, .int .i64 p.hi] 104 1 _ rfl); clear hO2 hg2)
              | (at_builtin; refine appI HI2.out (Nat.succ_le_of_lt HS2.out.c.1.1) p.ch HL2.out rfl _ _ rfl rfl rfl ?_; intro v'' w3 hI3 hg3))
            go_roundw
            case rel => exact ⟨k + 1, HS2.out.grown HI2.out hg3 (Nat.le_succ _) (by simp), by simp, hlt, by rw [HN.out]; exact rows_apart HO2.out HI2.out (by decide) hg3, by rw [HN2.out]; exact hI3⟩
            case measure => simp [intOf]; omega
        · obtain rfl : k = rs.length := by omega
          rw [List.take_length] at HO HI
          clear hS
          go_wp2_with fail
          go_ret2
          exact ⟨⟨_, _, rfl, HO.out, HI.out⟩, HS.out.b⟩
end Go.Proofs.YtcejmfgbfdhflaaGreat
namespace Go.Proofs.YtcejmfgbfdhflaaGreat
open Go.RowKit Go.Shelf Go.BigFrame Go.Sort
attribute [local go_sem] World.cell?_alloc_some
def fitB (cs : List Ch) (ch first : Int) (t : Th) : Bool := (chF cs ch).isSome && (inB 1 1099511627776 t.num && (inB ((chOr cs ch).year + first) 4000 t.year && okLong t.lo t.hi))
set_option maxRecDepth 100000 in
set_option maxHeartbeats 6400000 in
theorem fits_any (x : WA) (t : Th) (ch first : Int) (w : World) (h : x.At w) (hf : 0 ≤ first ∧ first ≤ 1) (hy : ∀ c ∈ x.cs, 0 ≤ c.year ∧ c.year ≤ 4000) :
    Calls Tryz.prog 83 #[x.v, .agg #[.int .i64 t.num, .int .i64 t.year, .int .i64 t.lo, .int .i64 t.hi], .int .i64 ch, .int .i64 first] w fun e w' => e = .returned (.bool (fitB x.cs ch first t)) ∧ Below w.heap.size w w' := by
  have K0 := fun W (hb : Below w.heap.size w W) => chainAt_any x ch W (h.keep hb)
  have K1 := fun W => rin_any t.num 1 1099511627776 W
  have K2 := fun W => rin_any t.year ((chOr x.cs ch).year + first) 4000 W
  have K3 := fun W => rlong_any t.lo t.hi W
  have H := Lib.hid h.cs
  have k1 := h.k1
  have n1 := h.n1
  have HY := Lib.hid hy
  obtain ⟨x1, h1⟩ : ∃ b, inB 1 1099511627776 t.num = b := ⟨_, rfl⟩
  obtain ⟨x2, h2⟩ : ∃ b, inB ((chOr x.cs ch).year + first) 4000 t.year = b := ⟨_, rfl⟩
  obtain ⟨x3, h3⟩ : ∃ b, okLong t.lo t.hi = b := ⟨_, rfl⟩
  have hr : fitB x.cs ch first t = ((chF x.cs ch).isSome && (x1 && (x2 && x3))) := by rw [fitB, h1, h2, h3]
  rw [hr]
  simp only [h1] at K1
  simp only [h2] at K2
  simp only [h3] at K3
  clear h hy h1 h2 h3 hr
  obtain ⟨z, hz⟩ : ∃ z, (chF x.cs ch).isSome = z := ⟨_, rfl⟩
  have HZ := Lib.hid hz
  rw [hz]
  obtain ⟨cs, ps, rs, q1, q2, q3, c1, c2, c3⟩ := x
  obtain ⟨t1, t2, t3, t4⟩ := t
  simp only [WA.v] at *
  clear hz
  go_enter Tryz.func83, Tryz.ntmps83
  go_wp2_with fail
  obtain ⟨W0, hW0⟩ : ∃ W0, ((w).alloc (.cells #[.slice q1 cs.length c1, .slice q2 ps.length c2, .slice q3 rs.length c3] 26)).alloc (.cells #[.int .i64 (t1), .int .i64 (t2), .int .i64 (t3), .int .i64 (t4)] 128) = W0 := ⟨_, rfl⟩
  have S0 : St w W0 [(w.heap.size + 1, 0, .int .i64 (t1)), (w.heap.size + 1, 1, .int .i64 (t2)), (w.heap.size + 1, 2, .int .i64 (t3)), (w.heap.size + 1, 3, .int .i64 (t4)), (w.heap.size, 0, .slice q1 cs.length c1), (w.heap.size, 1, .slice q2 ps.length c2), (w.heap.size, 2, .slice q3 rs.length c3)] := by rw [← hW0]; exact (((St.nil w)).box #[.slice q1 cs.length c1, .slice q2 ps.length c2, .slice q3 rs.length c3] 26 (w.heap.size) (by simp)).box #[.int .i64 (t1), .int .i64 (t2), .int .i64 (t3), .int .i64 (t4)] 128 (w.heap.size + 1) (by simp)
  rw [hW0]
  clear hW0
  obtain ⟨C, hC0, HC, LC, BC, hne⟩ := cls S0
  haveI := hne
  obtain ⟨c0, rfl⟩ : ∃ n : Wd C, W0 = n.w := ⟨⟨_, hC0⟩, rfl⟩
  have fC0 : ∀ n : Wd C, n.w.cell? ⟨w.heap.size + 1, 0, none⟩ = some (.int .i64 (t1)) := fun n => (LC.out n).1.2.1
  have fC1 : ∀ n : Wd C, n.w.cell? ⟨w.heap.size + 1, 1, none⟩ = some (.int .i64 (t2)) := fun n => (LC.out n).2.1.2.1
  have fC2 : ∀ n : Wd C, n.w.cell? ⟨w.heap.size + 1, 2, none⟩ = some (.int .i64 (t3)) := fun n => (LC.out n).2.2.1.2.1
  have fC3 : ∀ n : Wd C, n.w.cell? ⟨w.heap.size + 1, 3, none⟩ = some (.int .i64 (t4)) := fun n => (LC.out n).2.2.2.1.2.1
  have fC4 : ∀ n : Wd C, n.w.cell? ⟨w.heap.size, 0, none⟩ = some (.slice q1 cs.length c1) := fun n => (LC.out n).2.2.2.2.1.2.1
  have fC5 : ∀ n : Wd C, n.w.cell? ⟨w.heap.size, 1, none⟩ = some (.slice q2 ps.length c2) := fun n => (LC.out n).2.2.2.2.2.1.2.1
  have fC6 : ∀ n : Wd C, n.w.cell? ⟨w.heap.size, 2, none⟩ = some (.slice q3 rs.length c3) := fun n => (LC.out n).2.2.2.2.2.2.1.2.1
  clear S0 hC0
  go_wp2_with fail
  refine (K0 _ (BC.out _)).mono ?_
  rintro e w1 ⟨⟨m, rfl, hm⟩, hb⟩
  obtain ⟨n, rfl⟩ : ∃ n : Wd C, w1 = n.w := ⟨⟨_, HC.out _ _ (Wd.h _) hb⟩, rfl⟩
  clear hb K0
  go_upto_region 2 with fail
  rcases hm with ⟨hz, rfl⟩ | ⟨k, hk, rfl, hc⟩
  · obtain rfl : z = false := by have := HZ.out; rw [← this]; exact hz
    clear hz
    refine wp_region_in C (HC.out _ _ (Wd.h _) (below_dr _)) (by kernel_rfl) (by kernel_rfl) ?_
    repeat (go_big_quiet_step (first | fail))
    refine wpQuiet_nil ?_
    intro wx hwx
    obtain ⟨n2, rfl⟩ : ∃ n : Wd C, wx = n.w := ⟨⟨wx, hwx⟩, rfl⟩
    clear hwx
    go_wp2_with fail
    go_ret
    exact ⟨ret_bool (by simp), BC.out _⟩
  · obtain rfl : z = true := by have := HZ.out; rw [← this, hc]; rfl
    rw [chOr_some hc] at K2
    rcases H.out with h0 | ⟨b, o, he, hb, hcc⟩
    · exact absurd hk (by simp [show cs = [] from h0])
    obtain rfl : q1 = some ⟨b, o, none⟩ := he
    obtain ⟨-, d2, -⟩ := hcc k cs[k] (List.getElem?_eq_getElem hk)
    have hyk := HY.out cs[k] (List.getElem_mem hk)
    obtain ⟨y, hyy⟩ : ∃ y, cs[k].year = y := ⟨_, rfl⟩
    simp only [show cs[k].year = y from hyy] at K2 d2 hyk
    have fY : ∀ n : Wd C, n.w.cell? ⟨b, o + k * 5 + 1, none⟩ = some (.int .i64 y) := fun n => ((BC.out n).cell (p := ⟨b, o + k * 5 + 1, none⟩) hb).trans d2
    have hmx : max (k : Int) 0 = k := by omega
    have hk2 : (k : Int) < (cs.length : Int) := by omega
    have hw1 : wrap64 (y + first) = y + first := w64 (by omega)
    clear d2 hcc hyy hc
    have D1 := fun n : Wd C => csame (C := C) K1 n
    have D2 := fun n : Wd C => csame (C := C) K2 n
    have D3 := cin HC fun W => Calls.be (K3 W)
    clear K1 K2 K3
    cases x1
    · skip
      refine wp_region_in C (HC.out _ _ (Wd.h _) (below_dr _)) (by kernel_rfl) (by kernel_rfl) ?_
      repeat (go_big_quiet_step (first | with_reducible exact (D1 _).out))
      refine wpQuiet_nil ?_
      intro wx hwx
      obtain ⟨n2, rfl⟩ : ∃ n : Wd C, wx = n.w := ⟨⟨wx, hwx⟩, rfl⟩
      clear hwx
      go_wp2_with fail
      go_ret
      exact ⟨rfl, BC.out _⟩
    cases x2
    · skip
      refine wp_region_in C (HC.out _ _ (Wd.h _) (below_dr _)) (by kernel_rfl) (by kernel_rfl) ?_
      repeat (go_big_quiet_step (first | with_reducible exact (D1 _).out | with_reducible exact (D2 _).out))
      refine wpQuiet_nil ?_
      intro wx hwx
      obtain ⟨n2, rfl⟩ : ∃ n : Wd C, wx = n.w := ⟨⟨wx, hwx⟩, rfl⟩
      clear hwx
      go_wp2_with fail
      go_ret
      exact ⟨rfl, BC.out _⟩
    · skip
      refine wp_region_in C (HC.out _ _ (Wd.h _) (below_dr _)) (by kernel_rfl) (by kernel_rfl) ?_
      repeat (go_big_quiet_step (first | with_reducible exact (D1 _).out | with_reducible exact (D2 _).out | with_reducible exact (D3 _).out))
      refine wpQuiet_nil ?_
      intro wx hwx
      obtain ⟨n2, rfl⟩ : ∃ n : Wd C, wx = n.w := ⟨⟨wx, hwx⟩, rfl⟩
      clear hwx
      go_wp2_with fail
      go_ret
      exact ⟨rfl, BC.out _⟩
end Go.Proofs.YtcejmfgbfdhflaaGreat
namespace Go.Proofs.YtcejmfgbfdhflaaGreat
open Go.RowKit Go.Shelf Go.BigFrame Go.Sort
attribute [local go_sem] World.cell?_alloc_some
def thL (x : WA) : List Th := x.ps.map Pf.th ++ x.rs.map Pf.th
def chL (x : WA) : List Int := x.ps.map (·.ch) ++ x.rs.map (·.ch)
/-- Two things that may not stand together. -/
def Bad (x : WA) (i k : Nat) : Prop := ((thL x).getD k dTh).num = ((thL x).getD i dTh).num ∨ (x.ps.length ≤ i ∧ x.ps.length ≤ k ∧ (chL x).getD k 0 = (chL x).getD i 0 ∧ ((thL x).getD k dTh).year = ((thL x).getD i dTh).year)
def fst1 (x : WA) (i : Nat) : Int := if i < x.ps.length then 0 else 1
/-- The error of the things from one on. -/
def restE (x : WA) (i : Nat) : Int :=
  if i < x.ps.length then (if chkPs x.cs ((x.ps.take i).map (·.id)) (x.ps.drop i) ≠ 0 then chkPs x.cs ((x.ps.take i).map (·.id)) (x.ps.drop i) else chkRs x.cs (x.ps.map (·.id)) [] x.rs)
  else chkRs x.cs (x.ps.map (·.id) ++ (x.rs.take (i - x.ps.length)).map (·.id)) (x.rs.take (i - x.ps.length)) (x.rs.drop (i - x.ps.length))
theorem fit_pf (cs : List Ch) (p : Pf) : fitB cs p.ch 0 p.th = okPf cs p := by
  have hL : okLong p.lo p.hi = true ↔ p.lo ≤ p.hi ∧ 9000 ≤ p.lo ∧ p.hi ≤ 12000 := by simp [okLong, insB]
  rw [Bool.eq_iff_iff, okPf_iff]
  unfold fitB okId Pf.th
  simp only [Bool.and_eq_true, inB_iff, hL]
  constructor
  · rintro ⟨a, b, c, d⟩; exact ⟨a, b, by omega, d⟩
  · rintro ⟨a, b, c, d⟩; exact ⟨a, b, by omega, d⟩
theorem fit_rp (cs : List Ch) (p : Pf) : fitB cs p.ch 1 p.th = okRp cs p := by
  have hL : okLong p.lo p.hi = true ↔ p.lo ≤ p.hi ∧ 9000 ≤ p.lo ∧ p.hi ≤ 12000 := by simp [okLong, insB]
  rw [Bool.eq_iff_iff, okRp_iff]
  unfold fitB okId Pf.th
  simp only [Bool.and_eq_true, inB_iff, hL]
  constructor
  · rintro ⟨a, b, c, d⟩; exact ⟨a, b, by omega, by omega, d⟩
  · rintro ⟨a, b, c, c2, d⟩; exact ⟨a, b, by omega, d⟩
theorem thL_lo {x : WA} {i : Nat} (h : i < x.ps.length) : (thL x).getD i dTh = x.ps[i].th ∧ (chL x).getD i 0 = x.ps[i].ch := by
  unfold thL chL
  simp [List.getElem?_append_left, h]
theorem thL_hi {x : WA} {j : Nat} (h : j < x.rs.length) : (thL x).getD (x.ps.length + j) dTh = x.rs[j].th ∧ (chL x).getD (x.ps.length + j) 0 = x.rs[j].ch := by
  unfold thL chL
  simp [h]
theorem rest_start {x : WA} (h1 : (decide (20 < x.cs.length) || decide (60 < x.ps.length + x.rs.length)) = false) (h2 : chkCs [] x.cs = 0) : chk x = restE x 0 := by
  unfold chk
  rw [if_neg (by simp [h1]), if_neg (by simp [h2])]
  unfold restE
  by_cases h : 0 < x.ps.length
  · rw [if_pos h]; rfl
  · rw [if_neg h]
    have : x.ps = [] := List.length_eq_zero_iff.1 (by omega)
    rw [this]
    simp [chkPs]
theorem rest_end (x : WA) : restE x (x.ps.length + x.rs.length) = 0 := by
  unfold restE
  rw [if_neg (by omega), Nat.add_sub_cancel_left, List.drop_length]
  rfl
theorem lo_dup {x : WA} {i : Nat} (h : i < x.ps.length) : (((x.ps.take i).map (·.id)).contains x.ps[i].id = true) ↔ ∃ k, k < i ∧ Bad x i k := by
  rw [List.contains_iff_mem, List.mem_map]
  constructor
  · rintro ⟨p, hp, e⟩
    obtain ⟨k, hk⟩ := List.mem_iff_getElem?.1 hp
    have hki : k < i := by have := (List.getElem?_eq_some_iff.1 hk).1; simp at this; omega
    rw [List.getElem?_take_of_lt hki] at hk
    obtain ⟨hk2, rfl⟩ := List.getElem?_eq_some_iff.1 hk
    exact ⟨k, hki, .inl (by rw [(thL_lo hk2).1, (thL_lo h).1]; exact e)⟩
  · rintro ⟨k, hki, e | ⟨e, -⟩⟩
    · have hk2 : k < x.ps.length := by omega
      rw [(thL_lo hk2).1, (thL_lo h).1] at e
      exact ⟨x.ps[k], List.mem_iff_getElem?.2 ⟨k, by rw [List.getElem?_take_of_lt hki]; exact List.getElem?_eq_getElem hk2⟩, e⟩
    · omega
theorem hi_dup {x : WA} {j : Nat} (h : j < x.rs.length) : ((x.ps.map (·.id) ++ (x.rs.take j).map (·.id)).contains x.rs[j].id || repB (x.rs.take j) x.rs[j]) = true ↔ ∃ k, k < x.ps.length + j ∧ Bad x (x.ps.length + j) k := by
  rw [Bool.or_eq_true, List.contains_iff_mem, List.mem_append, List.mem_map, List.mem_map]
  unfold repB
  rw [List.any_eq_true]
  constructor
  · rintro ((⟨p, hp, e⟩ | ⟨p, hp, e⟩) | ⟨p, hp, e⟩)
    · obtain ⟨k, hk2, rfl⟩ := List.getElem_of_mem hp
      exact ⟨k, by omega, .inl (by rw [(thL_lo hk2).1, (thL_hi h).1]; exact e)⟩
    · obtain ⟨k, hk⟩ := List.mem_iff_getElem?.1 hp
      have hki : k < j := by have := (List.getElem?_eq_some_iff.1 hk).1; simp at this; omega
      rw [List.getElem?_take_of_lt hki] at hk
      obtain ⟨hk2, rfl⟩ := List.getElem?_eq_some_iff.1 hk
      exact ⟨x.ps.length + k, by omega, .inl (by rw [(thL_hi hk2).1, (thL_hi h).1]; exact e)⟩
    · obtain ⟨k, hk⟩ := List.mem_iff_getElem?.1 hp
      have hki : k < j := by have := (List.getElem?_eq_some_iff.1 hk).1; simp at this; omega
      rw [List.getElem?_take_of_lt hki] at hk
      obtain ⟨hk2, rfl⟩ := List.getElem?_eq_some_iff.1 hk
      simp only [Bool.and_eq_true, beq_iff_eq] at e
      exact ⟨x.ps.length + k, by omega, .inr ⟨by omega, by omega, by rw [(thL_hi hk2).2, (thL_hi h).2]; exact e.1, by rw [(thL_hi hk2).1, (thL_hi h).1]; exact e.2⟩⟩
  · rintro ⟨k, hki, e⟩
    by_cases hk : k < x.ps.length
    · rcases e with e | ⟨-, e, -⟩
      · rw [(thL_lo hk).1, (thL_hi h).1] at e
        exact .inl (.inl ⟨x.ps[k], List.getElem_mem hk, e⟩)
      · omega
    · obtain ⟨k', rfl⟩ : ∃ k', k = x.ps.length + k' := ⟨k - x.ps.length, by omega⟩
      have hk2 : k' < x.rs.length := by omega
      have hm : x.rs[k'] ∈ x.rs.take j := List.mem_iff_getElem?.2 ⟨k', by rw [List.getElem?_take_of_lt (by omega)]; exact List.getElem?_eq_getElem hk2⟩
      rcases e with e | ⟨-, -, e1, e2⟩
      · rw [(thL_hi hk2).1, (thL_hi h).1] at e
        exact .inl (.inr ⟨_, hm, e⟩)
      · rw [(thL_hi hk2).2, (thL_hi h).2] at e1
        rw [(thL_hi hk2).1, (thL_hi h).1] at e2
        exact .inr ⟨_, hm, by simp only [Bool.and_eq_true, beq_iff_eq]; exact ⟨e1, e2⟩⟩
theorem rest_step {x : WA} {i : Nat} (h : i < x.ps.length + x.rs.length) :
    (fitB x.cs ((chL x).getD i 0) (fst1 x i) ((thL x).getD i dTh) = false → restE x i = 1) ∧
    (fitB x.cs ((chL x).getD i 0) (fst1 x i) ((thL x).getD i dTh) = true → (∃ k, k < i ∧ Bad x i k) → restE x i = 6) ∧
    (fitB x.cs ((chL x).getD i 0) (fst1 x i) ((thL x).getD i dTh) = true → (¬ ∃ k, k < i ∧ Bad x i k) → restE x i = restE x (i + 1)) := by
  by_cases hi : i < x.ps.length
  · have hs := chkPs_step x.cs x.ps i hi
    obtain ⟨e1, e2⟩ := thL_lo hi
    have hd := lo_dup hi
    rw [e1, e2, show fst1 x i = 0 from if_pos hi, fit_pf]
    unfold restE
    rw [if_pos hi]
    refine ⟨fun a => ?_, fun a b => ?_, fun a b => ?_⟩
    · rw [if_pos a] at hs
      rw [hs, if_pos (by decide)]
    · rw [if_neg (by simp [a]), if_pos (hd.2 b)] at hs
      rw [hs, if_pos (by decide)]
    · rw [if_neg (by simp [a]), if_neg (fun c => b (hd.1 c))] at hs
      rw [hs]
      by_cases hi2 : i + 1 < x.ps.length
      · rw [if_pos hi2]
      · rw [if_neg hi2, show i + 1 = x.ps.length from by omega, List.drop_length, Nat.sub_self]
        simp [chkPs]
  · obtain ⟨j, rfl⟩ : ∃ j, i = x.ps.length + j := ⟨i - x.ps.length, by omega⟩
    have hj : j < x.rs.length := by omega
    have hs := chkRs_step x.cs (x.ps.map (·.id)) x.rs j hj
    obtain ⟨e1, e2⟩ := thL_hi hj
    have hd := hi_dup hj
    rw [e1, e2, show fst1 x (x.ps.length + j) = 1 from if_neg hi, fit_rp]
    unfold restE
    rw [if_neg hi, if_neg (by omega), show x.ps.length + j - x.ps.length = j from by omega, show x.ps.length + j + 1 - x.ps.length = j + 1 from by omega, hs]
    refine ⟨fun a => by rw [if_pos a], fun a b => ?_, fun a b => ?_⟩
    · rw [if_neg (by simp [a]), if_pos (hd.2 b)]
    · rw [if_neg (by simp [a]), if_neg (fun c => b (hd.1 c))]
end Go.Proofs.YtcejmfgbfdhflaaGreat
namespace Go.Proofs.YtcejmfgbfdhflaaGreat
open Go.RowKit Go.Shelf Go.BigFrame Go.Sort
attribute [local go_sem] World.cell?_alloc_some
/-- Things of the specification lie there. -/
def T4At (W : World) (q : Option Addr) (l : List Th) : Prop :=
  l = [] ∨ ∃ b, q = some ⟨b, 0, none⟩ ∧ b < W.heap.size ∧ ∀ (j : Nat) (t : Th), l[j]? = some t → W.cell? ⟨b, j * 4, none⟩ = some (.int .i64 t.num) ∧ W.cell? ⟨b, j * 4 + 1, none⟩ = some (.int .i64 t.year) ∧ W.cell? ⟨b, j * 4 + 2, none⟩ = some (.int .i64 t.lo) ∧ W.cell? ⟨b, j * 4 + 3, none⟩ = some (.int .i64 t.hi)
theorem T4At.keep {W W' : World} {q : Option Addr} {l : List Th} (h : T4At W q l) (hb : Below W.heap.size W W') : T4At W' q l := by
  rcases h with rfl | ⟨b, rfl, hlt, hc⟩
  · exact .inl rfl
  · refine .inr ⟨b, rfl, Nat.lt_of_lt_of_le hlt hb.size, fun j q hq => ?_⟩
    rw [hb.cell (p := ⟨b, j * 4, none⟩) hlt, hb.cell (p := ⟨b, j * 4 + 1, none⟩) hlt, hb.cell (p := ⟨b, j * 4 + 2, none⟩) hlt, hb.cell (p := ⟨b, j * 4 + 3, none⟩) hlt]
    exact hc j q hq
theorem OTh.shape {W : World} {B : Nat} {v : Value} {l : List Th} (h : OTh W B v l) : ∃ q cap, v = .slice q l.length cap ∧ T4At W q l := by
  obtain ⟨h1, ⟨rfl, h2⟩ | ⟨g, cap, cur, rfl, hB, hc, h3, h4, h5, h6⟩⟩ := h
  · exact ⟨none, 0, by rw [h2], .inl (List.length_eq_zero_iff.1 h2)⟩
  · refine ⟨_, cap, rfl, .inr ⟨g, rfl, (Array.getElem?_eq_some_iff.1 hc).1, fun j t hj => ?_⟩⟩
    have hlt : j < l.length := (List.getElem?_eq_some_iff.1 hj).1
    obtain ⟨a0, a1, a2, a3⟩ := flat4_get hj
    rw [← h6, List.getElem?_take_of_lt (by omega)] at a0 a1 a2 a3
    exact ⟨by simpa [World.cell?, hc] using a0, by simpa [World.cell?, hc] using a1, by simpa [World.cell?, hc] using a2, by simpa [World.cell?, hc] using a3⟩
theorem getD_of {α : Type} {l : List α} {i : Nat} {d : α} (h : i < l.length) : l[i]? = some (l.getD i d) := by simp [List.getD, h]
set_option maxRecDepth 100000 in
set_option maxHeartbeats 12800000 in
theorem rCheck_any (x : WA) (w : World) (h : x.At w) : Calls Tryz.prog 24 #[x.v] w fun e w' => e = .returned (.int .i64 (chk x)) ∧ Below w.heap.size w w' := by
  have K2 := fun W (hb : Below w.heap.size w W) => rchains_any x.q1 x.c1 x.cs W h.n1 (h.cs.keep hb)
  have K3 := fun W (hb : Below w.heap.size w W) => things_any x W (h.keep hb)
  have K4 : chkCs [] x.cs = 0 → ∀ (t : Th) (ch first : Int), 0 ≤ first ∧ first ≤ 1 → ∀ W, Below w.heap.size w W → Calls Tryz.prog 83 #[x.v, .agg #[.int .i64 t.num, .int .i64 t.year, .int .i64 t.lo, .int .i64 t.hi], .int .i64 ch, .int .i64 first] W fun e w' => e = .returned (.bool (fitB x.cs ch first t)) ∧ Below W.heap.size W w' := fun hz t ch first hf W hb => fits_any x t ch first W (h.keep hb) hf (fun c hc => (okCh_iff.1 (chkCs_ok _ _ hz c hc)).2.1)
  have n2 := h.n2
  have n3 := h.n3
  obtain ⟨E, hE⟩ : ∃ E, chk x = E := ⟨_, rfl⟩
  obtain ⟨X, hX⟩ : ∃ X, x = X := ⟨_, rfl⟩
  have HX := Lib.hid hX
  have HE := Lib.hid hE
  rw [hE]
  obtain ⟨e1, h1⟩ : ∃ b, chkCs [] x.cs = b := ⟨_, rfl⟩
  simp only [h1] at K2 K4
  have H1 := Lib.hid h1
  have HK4 := Lib.hid K4
  have hT : thL X = x.ps.map Pf.th ++ x.rs.map Pf.th := by rw [← hX]; rfl
  have hC : chL X = x.ps.map (·.ch) ++ x.rs.map (·.ch) := by rw [← hX]; rfl
  rw [← hT, ← hC] at K3
  have hLT : (thL X).length = x.ps.length + x.rs.length := by rw [hT]; simp
  have hLC : (chL X).length = x.ps.length + x.rs.length := by rw [hC]; simp
  have hXp : X.ps.length = x.ps.length := by rw [hX]
  have hXr : X.rs.length = x.rs.length := by rw [hX]
  have hXc : X.cs = x.cs := by rw [hX]
  have HL := Lib.hid (And.intro hLT (And.intro hLC (And.intro hXp (And.intro hXr hXc))))
  have HE0 : Hid ((decide (20 < x.cs.length) || decide (60 < x.ps.length + x.rs.length)) = true → E = 2) := fun e => by rw [← hE, chk, if_pos e]
  have HE1 : Hid ((decide (20 < x.cs.length) || decide (60 < x.ps.length + x.rs.length)) = false → e1 ≠ 0 → E = e1) := fun e e' => by rw [← hE, chk, if_neg (by simp [e]), h1, if_pos e']
  have HE2 : Hid ((decide (20 < x.cs.length) || decide (60 < x.ps.length + x.rs.length)) = false → e1 = 0 → restE X 0 = E) := fun e e' => by rw [← hE, ← hX]; exact (rest_start e (h1.trans e')).symm
  clear h hE h1 hX hT hC hLT hLC K4 hXp hXr hXc HE HX
  obtain ⟨cs, ps, rs, q1, q2, q3, c1, c2, c3⟩ := x
  simp only [WA.v] at *
  have hw : wrap64 ((ps.length : Int) + (rs.length : Int)) = (ps.length : Int) + (rs.length : Int) := w64 (by omega)
  go_enter Tryz.func24, Tryz.ntmps24
  go_upto_region 1 with fail
  obtain ⟨W0, hW0⟩ : ∃ W0, (w).alloc (.cells #[.slice q1 cs.length c1, .slice q2 ps.length c2, .slice q3 rs.length c3] 26) = W0 := ⟨_, rfl⟩
  have S0 : St w W0 [(w.heap.size, 0, .slice q1 cs.length c1), (w.heap.size, 1, .slice q2 ps.length c2), (w.heap.size, 2, .slice q3 rs.length c3)] := by rw [← hW0]; exact ((St.nil w)).box #[.slice q1 cs.length c1, .slice q2 ps.length c2, .slice q3 rs.length c3] 26 (w.heap.size) (by simp)
  rw [hW0]
  clear hW0
  obtain ⟨C, hC0, HC, LC, BC, hne⟩ := cls S0
  haveI := hne
  obtain ⟨c0, rfl⟩ : ∃ n : Wd C, W0 = n.w := ⟨⟨_, hC0⟩, rfl⟩
  have fC0 : ∀ n : Wd C, n.w.cell? ⟨w.heap.size, 0, none⟩ = some (.slice q1 cs.length c1) := fun n => (LC.out n).1.2.1
  have fC1 : ∀ n : Wd C, n.w.cell? ⟨w.heap.size, 1, none⟩ = some (.slice q2 ps.length c2) := fun n => (LC.out n).2.1.2.1
  have fC2 : ∀ n : Wd C, n.w.cell? ⟨w.heap.size, 2, none⟩ = some (.slice q3 rs.length c3) := fun n => (LC.out n).2.2.1.2.1
  clear S0 hC0
  have D2 := cinL HC BC K2
  clear K2
  by_cases h20 : 20 < cs.length
  · obtain rfl : 2 = E := (HE0.out (by simp [h20])).symm
    have h20' : decide ((20 : Int) < (cs.length : Int)) = true := by simp; omega
    go_wp2_with fail
    go_ret
    exact ⟨rfl, BC.out _⟩
  have h20' : decide ((20 : Int) < (cs.length : Int)) = false := by simp; omega
  by_cases h60 : 60 < ps.length + rs.length
  · obtain rfl : 2 = E := (HE0.out (by simp [h60])).symm
    have h60' : decide ((60 : Int) < (ps.length : Int) + (rs.length : Int)) = true := by simp; omega
    go_wp2_with fail
    go_ret
    exact ⟨rfl, BC.out _⟩
  have h60' : decide ((60 : Int) < (ps.length : Int) + (rs.length : Int)) = false := by simp; omega
  have HG : Hid ((decide (20 < cs.length) || decide (60 < ps.length + rs.length)) = false) := by unfold Hid; simp; omega
  by_cases he : e1 = 0
  · subst he
    have HE3 : Hid (restE X 0 = E) := HE2.out HG.out rfl
    clear HE0 HE1 HE2 h20 h60
    go_upto_region 6 with (first | first | (go_at_call 81; with_reducible refine (D2 _).out.mono ?_; rintro e w' ⟨rfl, n, rfl⟩))
    clear h20' h60' HG
    go_wp2_with fail
    refine (K3 _ (BC.out _)).mono ?_
    rintro e w2 ⟨⟨v1, v2, rfl, hO, hI⟩, hg⟩
    have S1 : St w2 w2 [(w.heap.size, 0, .slice q1 cs.length c1), (w.heap.size, 1, .slice q2 ps.length c2), (w.heap.size, 2, .slice q3 rs.length c3)] := ⟨Below.refl _ _, (LC.out _).keep hg⟩
    have hW : Hid (Below w.heap.size w w2) := (BC.out _).trans (hg.mono (BC.out _).size)
    clear hg K3 D2 HC LC BC fC0 fC1 fC2 hne
    obtain ⟨qt, ct, rfl, hT⟩ := OTh.shape hO
    obtain ⟨qi, ci, rfl, hI2, hci, hcm⟩ := OI.shape hI
    have HT := Lib.hid hT
    have HI := Lib.hid hI2
    rw [HL.out.1, HL.out.2.1]
    clear hT hI2 hO hI hci hcm
    obtain ⟨D, hC0, HD, LD, BD, hne, FD⟩ := clsF S1
    haveI := hne
    obtain ⟨d0, rfl⟩ : ∃ n : Wd D, w2 = n.w := ⟨⟨_, hC0⟩, rfl⟩
    have fD0 : ∀ n : Wd D, n.w.cell? ⟨w.heap.size, 0, none⟩ = some (.slice q1 cs.length c1) := fun n => (LD.out n).1.2.1
    have fD1 : ∀ n : Wd D, n.w.cell? ⟨w.heap.size, 1, none⟩ = some (.slice q2 ps.length c2) := fun n => (LD.out n).2.1.2.1
    have fD2 : ∀ n : Wd D, n.w.cell? ⟨w.heap.size, 2, none⟩ = some (.slice q3 rs.length c3) := fun n => (LD.out n).2.2.1.2.1
    clear S1 hC0
    have HW : Hid (∀ n : Wd D, Below w.heap.size w n.w) := fun n => hW.out.trans ((BD.out n).mono hW.out.size)
    go_wp2_with fail
    clear fD0 fD1 fD2
    go_loopw [6] (fun i wr => ∃ (k : Nat) (n : Wd D), wr = n.w ∧ i = .int .i64 (k : Int) ∧ k ≤ ps.length + rs.length ∧ Hid (restE X k = E)) (fun i wr => ps.length + rs.length - (intOf i).toNat)
    case atStart => exact ⟨0, d0, rfl, rfl, Nat.zero_le _, HE3⟩
    case round =>
      obtain ⟨k, n, rfl, rfl, hk, HP⟩ := hrel
      by_cases hlt : k < ps.length + rs.length
      · have hkX : k < X.ps.length + X.rs.length := by have := HL.out; omega
        have hS := rest_step hkX
        have htl := getD_of (l := thL X) (d := dTh) (i := k) (by have := HL.out.1; omega)
        have hcl := getD_of (l := chL X) (d := 0) (i := k) (by have := HL.out.2.1; omega)
        rcases HT.out with h0 | ⟨b4, rfl, hb4, hc4⟩
        · rw [h0] at htl; simp at htl
        rcases HI.out with h0 | ⟨bi, oi, rfl, hbi, hci⟩
        · rw [h0] at hcl; simp at hcl
        obtain ⟨a0, a1, a2, a3⟩ := hc4 k _ htl
        have a4 := hci k _ hcl
        have HC4 := Lib.hid (And.intro hb4 hc4)
        have HCI := Lib.hid (And.intro hbi hci)
        obtain ⟨t, ht⟩ : ∃ t, (thL X).getD k dTh = t := ⟨_, rfl⟩
        obtain ⟨ch, hch⟩ : ∃ t, (chL X).getD k 0 = t := ⟨_, rfl⟩
        obtain ⟨f, hf⟩ : ∃ t, fst1 X k = t := ⟨_, rfl⟩
        have hf01 : 0 ≤ f ∧ f ≤ 1 := by rw [← hf, fst1]; split <;> decide
        have HF : Hid (fst1 X k = f) := hf
        have HTK := Lib.hid ht
        have HCK := Lib.hid hch
        rw [ht] at a0 a1 a2 a3 hS
        rw [hch] at a4 hS
        rw [hf, HL.out.2.2.2.2] at hS
        obtain ⟨z, hz⟩ : ∃ z, fitB cs ch f t = z := ⟨_, rfl⟩
        rw [hz] at hS
        have HS := Lib.hid hS
        have hK := fun W hb => HK4.out (by first | rfl | trivial) t ch f hf01 W hb
        rw [hz] at hK
        have D7 := cinL HD HW hK
        have fT0 : ∀ n : Wd D, n.w.cell? ⟨b4, k * 4, none⟩ = some (.int .i64 t.num) := fun n => ((BD.out n).cell (p := ⟨b4, k * 4, none⟩) hb4).trans a0
        have fT1 : ∀ n : Wd D, n.w.cell? ⟨b4, k * 4 + 1, none⟩ = some (.int .i64 t.year) := fun n => ((BD.out n).cell (p := ⟨b4, k * 4 + 1, none⟩) hb4).trans a1
        have fT2 : ∀ n : Wd D, n.w.cell? ⟨b4, k * 4 + 2, none⟩ = some (.int .i64 t.lo) := fun n => ((BD.out n).cell (p := ⟨b4, k * 4 + 2, none⟩) hb4).trans a2
        have fT3 : ∀ n : Wd D, n.w.cell? ⟨b4, k * 4 + 3, none⟩ = some (.int .i64 t.hi) := fun n => ((BD.out n).cell (p := ⟨b4, k * 4 + 3, none⟩) hb4).trans a3
        have fI : ∀ n : Wd D, n.w.cell? ⟨bi, oi + k, none⟩ = some (.int .i64 ch) := fun n => ((BD.out n).cell (p := ⟨bi, oi + k, none⟩) hbi).trans a4
        have fD0 : ∀ n : Wd D, n.w.cell? ⟨w.heap.size, 0, none⟩ = some (.slice q1 cs.length c1) := fun n => (LD.out n).1.2.1
        have fD1 : ∀ n : Wd D, n.w.cell? ⟨w.heap.size, 1, none⟩ = some (.slice q2 ps.length c2) := fun n => (LD.out n).2.1.2.1
        have fD2 : ∀ n : Wd D, n.w.cell? ⟨w.heap.size, 2, none⟩ = some (.slice q3 rs.length c3) := fun n => (LD.out n).2.2.1.2.1
        have hlt' : (k : Int) < (ps.length : Int) + (rs.length : Int) := by omega
        have hlt2' : (k : Int) < ((ps.length + rs.length : Nat) : Int) := by omega
        clear hS htl hcl hb4 hc4 hbi hci a0 a1 a2 a3 a4 ht hch hf hz hK
        by_cases hn : k < ps.length
        · skip
          obtain rfl : f = 0 := by rw [← HF.out, fst1, if_pos (by have := HL.out; omega)]
          have hn2 : (k : Int) < (ps.length : Int) := by omega
          cases z
          · obtain rfl : 1 = E := by have := HS.out.1 rfl; rw [← HP.out, this]
            go_upto_region 13 with fail
            refine wp_region_in D (HD.out _ _ (Wd.h _) (below_dr _)) (by kernel_rfl) (by kernel_rfl) ?_
            repeat (go_big_quiet_step (first | with_reducible exact (D7 _).out))
            refine wpQuiet_nil ?_
            intro wx hwx
            obtain ⟨n2, rfl⟩ : ∃ n : Wd D, wx = n.w := ⟨⟨wx, hwx⟩, rfl⟩
            clear hwx
            go_wp2_with fail
            go_ret
            exact ⟨rfl, HW.out _⟩
          · go_upto_region 13 with fail
            refine wp_region_in D (HD.out _ _ (Wd.h _) (below_dr _)) (by kernel_rfl) (by kernel_rfl) ?_
            repeat (go_big_quiet_step (first | with_reducible exact (D7 _).out))
            refine wpQuiet_nil ?_
            intro wx hwx
            obtain ⟨n2, rfl⟩ : ∃ n : Wd D, wx = n.w := ⟨⟨wx, hwx⟩, rfl⟩
            clear hwx
            go_upto_region 17 with fail
            go_loopw [9] (fun i wr => ∃ (j : Nat) (n : Wd D), wr = n.w ∧ i = .int .i64 (j : Int) ∧ j ≤ k ∧ Hid (∀ k', k' < j → ¬ Bad X k k')) (fun i wr => k - (intOf i).toNat)
            case atStart => exact ⟨0, n2, rfl, rfl, Nat.zero_le _, fun k' h => absurd h (by omega)⟩
            case round =>
              obtain ⟨j, n3, rfl, rfl, hj, HA⟩ := hrel
              by_cases hlt3 : j < k
              · have htl := getD_of (l := thL X) (d := dTh) (i := j) (by have := HL.out.1; omega)
                have hcl := getD_of (l := chL X) (d := 0) (i := j) (by have := HL.out.2.1; omega)
                obtain ⟨hb4, hc4⟩ := HC4.out
                obtain ⟨hbi, hci⟩ := HCI.out
                obtain ⟨a0, a1, -, -⟩ := hc4 j _ htl
                have a4 := hci j _ hcl
                obtain ⟨u, hu⟩ : ∃ t, (thL X).getD j dTh = t := ⟨_, rfl⟩
                obtain ⟨cj, hcj⟩ : ∃ t, (chL X).getD j 0 = t := ⟨_, rfl⟩
                rw [hu] at a0 a1
                rw [hcj] at a4
                have HB : Hid (Bad X k j ↔ (u.num = t.num ∨ (ps.length ≤ k ∧ ps.length ≤ j ∧ cj = ch ∧ u.year = t.year))) := by
                  unfold Hid Bad
                  rw [HTK.out, HCK.out, hu, hcj, HL.out.2.2.1]
                have gT0 : ∀ n : Wd D, n.w.cell? ⟨b4, j * 4, none⟩ = some (.int .i64 u.num) := fun n => ((BD.out n).cell (p := ⟨b4, j * 4, none⟩) hb4).trans a0
                have gT1 : ∀ n : Wd D, n.w.cell? ⟨b4, j * 4 + 1, none⟩ = some (.int .i64 u.year) := fun n => ((BD.out n).cell (p := ⟨b4, j * 4 + 1, none⟩) hb4).trans a1
                have gI : ∀ n : Wd D, n.w.cell? ⟨bi, oi + j, none⟩ = some (.int .i64 cj) := fun n => ((BD.out n).cell (p := ⟨bi, oi + j, none⟩) hbi).trans a4
                have hlt3' : (j : Int) < (k : Int) := by omega
                have hlt4' : (j : Int) < (ps.length : Int) + (rs.length : Int) := by omega
                have hlt5' : (j : Int) < ((ps.length + rs.length : Nat) : Int) := by omega
                clear htl hcl hb4 hc4 hbi hci a0 a1 a4 hu hcj
                by_cases he : u.num = t.num
                · have he1 : (u.num == t.num) = true := by simpa using he
                  obtain rfl : 6 = E := by have := HS.out.2.1 (by first | rfl | trivial) ⟨j, hlt3, HB.out.2 (by first | exact .inl he | exact .inr ⟨by omega, by omega, by assumption, by assumption⟩)⟩; rw [← HP.out, this]
                  clear he
                  go_upto_region 19 with fail
                  refine wp_region_in D (HD.out _ _ (Wd.h _) (below_dr _)) (by kernel_rfl) (by kernel_rfl) ?_
                  repeat (go_big_quiet_step (first | fail))
                  refine wpQuiet_nil ?_
                  intro wx hwx
                  obtain ⟨n4, rfl⟩ : ∃ n : Wd D, wx = n.w := ⟨⟨wx, hwx⟩, rfl⟩
                  clear hwx
                  go_upto_region 20 with fail
                  refine wp_region_in D (HD.out _ _ (Wd.h _) (below_dr _)) (by kernel_rfl) (by kernel_rfl) ?_
                  repeat (go_big_quiet_step (first | fail))
                  refine wpQuiet_nil ?_
                  intro wx hwx
                  obtain ⟨n5, rfl⟩ : ∃ n : Wd D, wx = n.w := ⟨⟨wx, hwx⟩, rfl⟩
                  clear hwx
                  go_wp2_with fail
                  go_ret
                  exact ⟨rfl, HW.out _⟩
                · have he1 : (u.num == t.num) = false := by simpa using he
                  have HA2 : Hid (∀ k', k' < j + 1 → ¬ Bad X k k') := fun k' hk' hbad => by
                    by_cases e : k' = j
                    · subst e
                      rcases HB.out.1 hbad with e | ⟨e1, e2, e3, e4⟩
                      · exact he e
                      · first | omega | contradiction
                    · exact HA.out k' (by omega) hbad
                  clear he
                  go_upto_region 19 with fail
                  refine wp_region_in D (HD.out _ _ (Wd.h _) (below_dr _)) (by kernel_rfl) (by kernel_rfl) ?_
                  repeat (go_big_quiet_step (first | fail))
                  refine wpQuiet_nil ?_
                  intro wx hwx
                  obtain ⟨n4, rfl⟩ : ∃ n : Wd D, wx = n.w := ⟨⟨wx, hwx⟩, rfl⟩
                  clear hwx
                  go_upto_region 20 with fail
                  refine wp_region_in D (HD.out _ _ (Wd.h _) (below_dr _)) (by kernel_rfl) (by kernel_rfl) ?_
                  repeat (go_big_quiet_step (first | fail))
                  refine wpQuiet_nil ?_
                  intro wx hwx
                  obtain ⟨n5, rfl⟩ : ∃ n : Wd D, wx = n.w := ⟨⟨wx, hwx⟩, rfl⟩
                  clear hwx
                  go_wp2_with fail
                  go_roundw
                  case rel => exact ⟨j + 1, n5, rfl, by simp, hlt3, HA2⟩
                  case measure => simp [intOf]; omega
              · obtain rfl : j = k := by omega
                have HP2 : Hid (restE X (j + 1) = E) := by
                  have := HS.out.2.2 (by first | rfl | trivial) (fun ⟨k', h1, h2⟩ => HA.out k' h1 h2)
                  unfold Hid; rw [← HP.out, this]
                clear HP
                go_wp2_with fail
                go_roundw
                case rel => exact ⟨j + 1, n3, rfl, by simp, hlt, HP2⟩
                case measure => simp [intOf]; omega
        · skip
          obtain rfl : f = 1 := by rw [← HF.out, fst1, if_neg (by have := HL.out; omega)]
          have hn2 : ¬ (k : Int) < (ps.length : Int) := by omega
          cases z
          · obtain rfl : 1 = E := by have := HS.out.1 rfl; rw [← HP.out, this]
            go_upto_region 13 with fail
            refine wp_region_in D (HD.out _ _ (Wd.h _) (below_dr _)) (by kernel_rfl) (by kernel_rfl) ?_
            repeat (go_big_quiet_step (first | with_reducible exact (D7 _).out))
            refine wpQuiet_nil ?_
            intro wx hwx
            obtain ⟨n2, rfl⟩ : ∃ n : Wd D, wx = n.w := ⟨⟨wx, hwx⟩, rfl⟩
            clear hwx
            go_wp2_with fail
            go_ret
            exact ⟨rfl, HW.out _⟩
          · go_upto_region 13 with fail
            refine wp_region_in D (HD.out _ _ (Wd.h _) (below_dr _)) (by kernel_rfl) (by kernel_rfl) ?_
            repeat (go_big_quiet_step (first | with_reducible exact (D7 _).out))
            refine wpQuiet_nil ?_
            intro wx hwx
            obtain ⟨n2, rfl⟩ : ∃ n : Wd D, wx = n.w := ⟨⟨wx, hwx⟩, rfl⟩
            clear hwx
            go_upto_region 17 with fail
            go_loopw [9] (fun i wr => ∃ (j : Nat) (n : Wd D), wr = n.w ∧ i = .int .i64 (j : Int) ∧ j ≤ k ∧ Hid (∀ k', k' < j → ¬ Bad X k k')) (fun i wr => k - (intOf i).toNat)
            case atStart => exact ⟨0, n2, rfl, rfl, Nat.zero_le _, fun k' h => absurd h (by omega)⟩
            case round =>
              obtain ⟨j, n3, rfl, rfl, hj, HA⟩ := hrel
              by_cases hlt3 : j < k
              · have htl := getD_of (l := thL X) (d := dTh) (i := j) (by have := HL.out.1; omega)
                have hcl := getD_of (l := chL X) (d := 0) (i := j) (by have := HL.out.2.1; omega)
                obtain ⟨hb4, hc4⟩ := HC4.out
                obtain ⟨hbi, hci⟩ := HCI.out
                obtain ⟨a0, a1, -, -⟩ := hc4 j _ htl
                have a4 := hci j _ hcl
                obtain ⟨u, hu⟩ : ∃ t, (thL X).getD j dTh = t := ⟨_, rfl⟩
                obtain ⟨cj, hcj⟩ : ∃ t, (chL X).getD j 0 = t := ⟨_, rfl⟩
                rw [hu] at a0 a1
                rw [hcj] at a4
                have HB : Hid (Bad X k j ↔ (u.num = t.num ∨ (ps.length ≤ k ∧ ps.length ≤ j ∧ cj = ch ∧ u.year = t.year))) := by
                  unfold Hid Bad
                  rw [HTK.out, HCK.out, hu, hcj, HL.out.2.2.1]
                have gT0 : ∀ n : Wd D, n.w.cell? ⟨b4, j * 4, none⟩ = some (.int .i64 u.num) := fun n => ((BD.out n).cell (p := ⟨b4, j * 4, none⟩) hb4).trans a0
                have gT1 : ∀ n : Wd D, n.w.cell? ⟨b4, j * 4 + 1, none⟩ = some (.int .i64 u.year) := fun n => ((BD.out n).cell (p := ⟨b4, j * 4 + 1, none⟩) hb4).trans a1
                have gI : ∀ n : Wd D, n.w.cell? ⟨bi, oi + j, none⟩ = some (.int .i64 cj) := fun n => ((BD.out n).cell (p := ⟨bi, oi + j, none⟩) hbi).trans a4
                have hlt3' : (j : Int) < (k : Int) := by omega
                have hlt4' : (j : Int) < (ps.length : Int) + (rs.length : Int) := by omega
                have hlt5' : (j : Int) < ((ps.length + rs.length : Nat) : Int) := by omega
                clear htl hcl hb4 hc4 hbi hci a0 a1 a4 hu hcj
                by_cases hj1 : j < ps.length
                · have hd1 : decide ((ps.length : Int) ≤ (j : Int)) = false := by simp; omega
                  have hd0 : decide (ps.length ≤ j) = false := by simp; omega
                  by_cases he : u.num = t.num
                  · have he1 : (u.num == t.num) = true := by simpa using he
                    obtain rfl : 6 = E := by have := HS.out.2.1 (by first | rfl | trivial) ⟨j, hlt3, HB.out.2 (by first | exact .inl he | exact .inr ⟨by omega, by omega, by assumption, by assumption⟩)⟩; rw [← HP.out, this]
                    clear he
                    go_upto_region 19 with fail
                    refine wp_region_in D (HD.out _ _ (Wd.h _) (below_dr _)) (by kernel_rfl) (by kernel_rfl) ?_
                    repeat (go_big_quiet_step (first | fail))
                    refine wpQuiet_nil ?_
                    intro wx hwx
                    obtain ⟨n4, rfl⟩ : ∃ n : Wd D, wx = n.w := ⟨⟨wx, hwx⟩, rfl⟩
                    clear hwx
                    go_upto_region 20 with fail
                    refine wp_region_in D (HD.out _ _ (Wd.h _) (below_dr _)) (by kernel_rfl) (by kernel_rfl) ?_
                    repeat (go_big_quiet_step (first | fail))
                    refine wpQuiet_nil ?_
                    intro wx hwx
                    obtain ⟨n5, rfl⟩ : ∃ n : Wd D, wx = n.w := ⟨⟨wx, hwx⟩, rfl⟩
                    clear hwx
                    go_wp2_with fail
                    go_ret
                    exact ⟨rfl, HW.out _⟩
                  · have he1 : (u.num == t.num) = false := by simpa using he
                    have HA2 : Hid (∀ k', k' < j + 1 → ¬ Bad X k k') := fun k' hk' hbad => by
                      by_cases e : k' = j
                      · subst e
                        rcases HB.out.1 hbad with e | ⟨e1, e2, e3, e4⟩
                        · exact he e
                        · first | omega | contradiction
                      · exact HA.out k' (by omega) hbad
                    clear he
                    go_upto_region 19 with fail
                    refine wp_region_in D (HD.out _ _ (Wd.h _) (below_dr _)) (by kernel_rfl) (by kernel_rfl) ?_
                    repeat (go_big_quiet_step (first | fail))
                    refine wpQuiet_nil ?_
                    intro wx hwx
                    obtain ⟨n4, rfl⟩ : ∃ n : Wd D, wx = n.w := ⟨⟨wx, hwx⟩, rfl⟩
                    clear hwx
                    go_upto_region 20 with fail
                    refine wp_region_in D (HD.out _ _ (Wd.h _) (below_dr _)) (by kernel_rfl) (by kernel_rfl) ?_
                    repeat (go_big_quiet_step (first | fail))
                    refine wpQuiet_nil ?_
                    intro wx hwx
                    obtain ⟨n5, rfl⟩ : ∃ n : Wd D, wx = n.w := ⟨⟨wx, hwx⟩, rfl⟩
                    clear hwx
                    go_wp2_with fail
                    go_roundw
                    case rel => exact ⟨j + 1, n5, rfl, by simp, hlt3, HA2⟩
                    case measure => simp [intOf]; omega
                · have hd1 : decide ((ps.length : Int) ≤ (j : Int)) = true := by simp; omega
                  have hd0 : decide (ps.length ≤ j) = true := by simp; omega
                  by_cases hj2 : cj = ch
                  · have hd2 : (cj == ch) = true := by simpa using hj2
                    by_cases hj3 : u.year = t.year
                    · have hd3 : (u.year == t.year) = true := by simpa using hj3
                      by_cases he : u.num = t.num
                      · have he1 : (u.num == t.num) = true := by simpa using he
                        skip
                        obtain rfl : 6 = E := by have := HS.out.2.1 (by first | rfl | trivial) ⟨j, hlt3, HB.out.2 (by first | exact .inl he | exact .inr ⟨by omega, by omega, by assumption, by assumption⟩)⟩; rw [← HP.out, this]
                        clear he
                        go_upto_region 19 with fail
                        refine wp_region_in D (HD.out _ _ (Wd.h _) (below_dr _)) (by kernel_rfl) (by kernel_rfl) ?_
                        repeat (go_big_quiet_step (first | fail))
                        refine wpQuiet_nil ?_
                        intro wx hwx
                        obtain ⟨n4, rfl⟩ : ∃ n : Wd D, wx = n.w := ⟨⟨wx, hwx⟩, rfl⟩
                        clear hwx
                        go_upto_region 20 with fail
                        refine wp_region_in D (HD.out _ _ (Wd.h _) (below_dr _)) (by kernel_rfl) (by kernel_rfl) ?_
                        repeat (go_big_quiet_step (first | fail))
                        refine wpQuiet_nil ?_
                        intro wx hwx
                        obtain ⟨n5, rfl⟩ : ∃ n : Wd D, wx = n.w := ⟨⟨wx, hwx⟩, rfl⟩
                        clear hwx
                        go_wp2_with fail
                        go_ret
                        exact ⟨rfl, HW.out _⟩
                      · have he1 : (u.num == t.num) = false := by simpa using he
                        skip
                        obtain rfl : 6 = E := by have := HS.out.2.1 (by first | rfl | trivial) ⟨j, hlt3, HB.out.2 (by first | exact .inl he | exact .inr ⟨by omega, by omega, by assumption, by assumption⟩)⟩; rw [← HP.out, this]
                        clear he
                        go_upto_region 19 with fail
                        refine wp_region_in D (HD.out _ _ (Wd.h _) (below_dr _)) (by kernel_rfl) (by kernel_rfl) ?_
                        repeat (go_big_quiet_step (first | fail))
                        refine wpQuiet_nil ?_
                        intro wx hwx
                        obtain ⟨n4, rfl⟩ : ∃ n : Wd D, wx = n.w := ⟨⟨wx, hwx⟩, rfl⟩
                        clear hwx
                        go_upto_region 20 with fail
                        refine wp_region_in D (HD.out _ _ (Wd.h _) (below_dr _)) (by kernel_rfl) (by kernel_rfl) ?_
                        repeat (go_big_quiet_step (first | fail))
                        refine wpQuiet_nil ?_
                        intro wx hwx
                        obtain ⟨n5, rfl⟩ : ∃ n : Wd D, wx = n.w := ⟨⟨wx, hwx⟩, rfl⟩
                        clear hwx
                        go_wp2_with fail
                        go_ret
                        exact ⟨rfl, HW.out _⟩
                    · have hd3 : (u.year == t.year) = false := by simpa using hj3
                      by_cases he : u.num = t.num
                      · have he1 : (u.num == t.num) = true := by simpa using he
                        obtain rfl : 6 = E := by have := HS.out.2.1 (by first | rfl | trivial) ⟨j, hlt3, HB.out.2 (by first | exact .inl he | exact .inr ⟨by omega, by omega, by assumption, by assumption⟩)⟩; rw [← HP.out, this]
                        clear he
                        go_upto_region 19 with fail
                        refine wp_region_in D (HD.out _ _ (Wd.h _) (below_dr _)) (by kernel_rfl) (by kernel_rfl) ?_
                        repeat (go_big_quiet_step (first | fail))
                        refine wpQuiet_nil ?_
                        intro wx hwx
                        obtain ⟨n4, rfl⟩ : ∃ n : Wd D, wx = n.w := ⟨⟨wx, hwx⟩, rfl⟩
                        clear hwx
                        go_upto_region 20 with fail
                        refine wp_region_in D (HD.out _ _ (Wd.h _) (below_dr _)) (by kernel_rfl) (by kernel_rfl) ?_
                        repeat (go_big_quiet_step (first | fail))
                        refine wpQuiet_nil ?_
                        intro wx hwx
                        obtain ⟨n5, rfl⟩ : ∃ n : Wd D, wx = n.w := ⟨⟨wx, hwx⟩, rfl⟩
                        clear hwx
                        go_wp2_with fail
                        go_ret
                        exact ⟨rfl, HW.out _⟩
                      · have he1 : (u.num == t.num) = false := by simpa using he
                        have HA2 : Hid (∀ k', k' < j + 1 → ¬ Bad X k k') := fun k' hk' hbad => by
                          by_cases e : k' = j
                          · subst e
                            rcases HB.out.1 hbad with e | ⟨e1, e2, e3, e4⟩
                            · exact he e
                            · first | omega | contradiction
                          · exact HA.out k' (by omega) hbad
                        clear he
                        go_upto_region 19 with fail
                        refine wp_region_in D (HD.out _ _ (Wd.h _) (below_dr _)) (by kernel_rfl) (by kernel_rfl) ?_
                        repeat (go_big_quiet_step (first | fail))
                        refine wpQuiet_nil ?_
                        intro wx hwx
                        obtain ⟨n4, rfl⟩ : ∃ n : Wd D, wx = n.w := ⟨⟨wx, hwx⟩, rfl⟩
                        clear hwx
                        go_upto_region 20 with fail
                        refine wp_region_in D (HD.out _ _ (Wd.h _) (below_dr _)) (by kernel_rfl) (by kernel_rfl) ?_
                        repeat (go_big_quiet_step (first | fail))
                        refine wpQuiet_nil ?_
                        intro wx hwx
                        obtain ⟨n5, rfl⟩ : ∃ n : Wd D, wx = n.w := ⟨⟨wx, hwx⟩, rfl⟩
                        clear hwx
                        go_wp2_with fail
                        go_roundw
                        case rel => exact ⟨j + 1, n5, rfl, by simp, hlt3, HA2⟩
                        case measure => simp [intOf]; omega
                  · have hd2 : (cj == ch) = false := by simpa using hj2
                    by_cases he : u.num = t.num
                    · have he1 : (u.num == t.num) = true := by simpa using he
                      obtain rfl : 6 = E := by have := HS.out.2.1 (by first | rfl | trivial) ⟨j, hlt3, HB.out.2 (by first | exact .inl he | exact .inr ⟨by omega, by omega, by assumption, by assumption⟩)⟩; rw [← HP.out, this]
                      clear he
                      go_upto_region 19 with fail
                      refine wp_region_in D (HD.out _ _ (Wd.h _) (below_dr _)) (by kernel_rfl) (by kernel_rfl) ?_
                      repeat (go_big_quiet_step (first | fail))
                      refine wpQuiet_nil ?_
                      intro wx hwx
                      obtain ⟨n4, rfl⟩ : ∃ n : Wd D, wx = n.w := ⟨⟨wx, hwx⟩, rfl⟩
                      clear hwx
                      go_upto_region 20 with fail
                      refine wp_region_in D (HD.out _ _ (Wd.h _) (below_dr _)) (by kernel_rfl) (by kernel_rfl) ?_
                      repeat (go_big_quiet_step (first | fail))
                      refine wpQuiet_nil ?_
                      intro wx hwx
                      obtain ⟨n5, rfl⟩ : ∃ n : Wd D, wx = n.w := ⟨⟨wx, hwx⟩, rfl⟩
                      clear hwx
                      go_wp2_with fail
                      go_ret
                      exact ⟨rfl, HW.out _⟩
                    · have he1 : (u.num == t.num) = false := by simpa using he
                      have HA2 : Hid (∀ k', k' < j + 1 → ¬ Bad X k k') := fun k' hk' hbad => by
                        by_cases e : k' = j
                        · subst e
                          rcases HB.out.1 hbad with e | ⟨e1, e2, e3, e4⟩
                          · exact he e
                          · first | omega | contradiction
                        · exact HA.out k' (by omega) hbad
                      clear he
                      go_upto_region 19 with fail
                      refine wp_region_in D (HD.out _ _ (Wd.h _) (below_dr _)) (by kernel_rfl) (by kernel_rfl) ?_
                      repeat (go_big_quiet_step (first | fail))
                      refine wpQuiet_nil ?_
                      intro wx hwx
                      obtain ⟨n4, rfl⟩ : ∃ n : Wd D, wx = n.w := ⟨⟨wx, hwx⟩, rfl⟩
                      clear hwx
                      go_upto_region 20 with fail
                      refine wp_region_in D (HD.out _ _ (Wd.h _) (below_dr _)) (by kernel_rfl) (by kernel_rfl) ?_
                      repeat (go_big_quiet_step (first | fail))
                      refine wpQuiet_nil ?_
                      intro wx hwx
                      obtain ⟨n5, rfl⟩ : ∃ n : Wd D, wx = n.w := ⟨⟨wx, hwx⟩, rfl⟩
                      clear hwx
                      go_wp2_with fail
                      go_roundw
                      case rel => exact ⟨j + 1, n5, rfl, by simp, hlt3, HA2⟩
                      case measure => simp [intOf]; omega
              · obtain rfl : j = k := by omega
                have HP2 : Hid (restE X (j + 1) = E) := by
                  have := HS.out.2.2 (by first | rfl | trivial) (fun ⟨k', h1, h2⟩ => HA.out k' h1 h2)
                  unfold Hid; rw [← HP.out, this]
                clear HP
                go_wp2_with fail
                go_roundw
                case rel => exact ⟨j + 1, n3, rfl, by simp, hlt, HP2⟩
                case measure => simp [intOf]; omega
      · obtain rfl : k = ps.length + rs.length := by omega
        obtain rfl : 0 = E := by have := HP.out; rw [← HL.out.2.2.1, ← HL.out.2.2.2.1, rest_end] at this; exact this
        go_wp2_with fail
        go_ret
        exact ⟨rfl, HW.out _⟩
  · obtain rfl : e1 = E := (HE1.out HG.out he).symm
    have he' : (e1 != 0) = true := by simpa using he
    clear he h20 h60
    go_wp2_with (first | first | (go_at_call 81; with_reducible refine (D2 _).out.mono ?_; rintro e w' ⟨rfl, n, rfl⟩))
    go_ret
    exact ⟨rfl, BC.out _⟩
end Go.Proofs.YtcejmfgbfdhflaaGreat
namespace Go.Proofs.YtcejmfgbfdhflaaGreat
open Go.RowKit Go.Shelf Go.BigFrame Go.Sort
attribute [local go_sem] World.cell?_alloc_some
/-- The years of a spell, as the specification finds them. -/
def stp (c : Ch) (y : Int) (a : Int × Int) (r : Pf) : Int × Int := if r.ch ≠ c.id then a else if r.year ≤ y then (max a.1 r.year, a.2) else (a.1, min a.2 (r.year - 1))
def rsp (c : Ch) (y : Int) (rs : List Pf) : Int × Int := rs.foldl (stp c y) (c.year, 4000)
theorem rsp_snoc (c : Ch) (y : Int) (l : List Pf) (r : Pf) : rsp c y (l ++ [r]) = stp c y (rsp c y l) r := by simp [rsp]
def spL (B : Nat) (id : Int) (v2 : Value) (a : Int × Int) : List (Nat × Nat × Value) := [(B + 1 + 1 + 1, 0, .int .i64 a.1), (B + 1 + 1 + 1, 1, .int .i64 a.2), (B + 1 + 1, 0, .int .i64 0), (B + 1 + 1, 1, .int .i64 0), (B + 1, 0, .int .i64 id), (B, 2, v2)]
theorem spL_lo {W : World} {B : Nat} {id : Int} {v2 : Value} {a : Int × Int} {u : Int} (h : Cs W (spL B id v2 a)) : Cs (W.setCell ⟨B + 1 + 1 + 1, 0, none⟩ (.int .i64 u)) (spL B id v2 (u, a.2)) := by
  have := h.upd (b := B + 1 + 1 + 1) (o := 0) (u := .int .i64 u)
  simpa [spL] using this
theorem spL_hi {W : World} {B : Nat} {id : Int} {v2 : Value} {a : Int × Int} {u : Int} (h : Cs W (spL B id v2 a)) : Cs (W.setCell ⟨B + 1 + 1 + 1, 1, none⟩ (.int .i64 u)) (spL B id v2 (a.1, u)) := by
  have := h.upd (b := B + 1 + 1 + 1) (o := 1) (u := .int .i64 u)
  simpa [spL] using this
set_option maxRecDepth 100000 in
set_option maxHeartbeats 6400000 in
theorem rspell_any (x : WA) (c : Ch) (y : Int) (w : World) (h : x.At w) (hr : ∀ r ∈ x.rs, 0 ≤ r.year ∧ r.year ≤ 4000) :
    Calls Tryz.prog 73 #[x.v, c.v, .int .i64 y] w fun e w' => e = .returned (spv (rsp c y x.rs).1 (rsp c y x.rs).2) ∧ Below w.heap.size w w' := by
  have H := Lib.hid h.rs
  have HR := Lib.hid hr
  have n3 := h.n3
  clear h hr
  obtain ⟨cs, ps, rs, q1, q2, q3, c1, c2, c3⟩ := x
  simp only [WA.v] at *
  go_enter Tryz.func73, Tryz.ntmps73
  go_upto_region 2 with fail
  obtain ⟨W0, hW0⟩ : ∃ W0, ((((w).alloc (.cells #[.slice q1 cs.length c1, .slice q2 ps.length c2, .slice q3 rs.length c3] 26)).alloc (.cells #[.int .i64 c.id, .int .i64 c.year, .int .i64 c.lo, .int .i64 c.hi, .int .i64 c.wear] 90)).alloc (.cells #[.int .i64 0, .int .i64 0] 30)).alloc (.cells #[.int .i64 c.year, .int .i64 4000] 30) = W0 := ⟨_, rfl⟩
  have S0 : St w W0 [(w.heap.size + 1 + 1 + 1, 0, .int .i64 c.year), (w.heap.size + 1 + 1 + 1, 1, .int .i64 4000), (w.heap.size + 1 + 1, 0, .int .i64 0), (w.heap.size + 1 + 1, 1, .int .i64 0), (w.heap.size + 1, 0, .int .i64 c.id), (w.heap.size + 1, 1, .int .i64 c.year), (w.heap.size + 1, 2, .int .i64 c.lo), (w.heap.size + 1, 3, .int .i64 c.hi), (w.heap.size + 1, 4, .int .i64 c.wear), (w.heap.size, 0, .slice q1 cs.length c1), (w.heap.size, 1, .slice q2 ps.length c2), (w.heap.size, 2, .slice q3 rs.length c3)] := by rw [← hW0]; exact (((((St.nil w)).box #[.slice q1 cs.length c1, .slice q2 ps.length c2, .slice q3 rs.length c3] 26 (w.heap.size) (by simp)).box #[.int .i64 c.id, .int .i64 c.year, .int .i64 c.lo, .int .i64 c.hi, .int .i64 c.wear] 90 (w.heap.size + 1) (by simp)).box #[.int .i64 0, .int .i64 0] 30 (w.heap.size + 1 + 1) (by simp)).box #[.int .i64 c.year, .int .i64 4000] 30 (w.heap.size + 1 + 1 + 1) (by simp)
  rw [hW0]
  clear hW0
  obtain ⟨C, hC0, HC, LC, BC, hne⟩ := cls S0
  haveI := hne
  obtain ⟨c0, rfl⟩ : ∃ n : Wd C, W0 = n.w := ⟨⟨_, hC0⟩, rfl⟩
  have fC0 : ∀ n : Wd C, n.w.cell? ⟨w.heap.size + 1 + 1 + 1, 0, none⟩ = some (.int .i64 c.year) := fun n => (LC.out n).1.2.1
  have zC0 : ∀ n : Wd C, n.w.frozen? ⟨w.heap.size + 1 + 1 + 1, 0, none⟩ = false := fun n => (LC.out n).1.2.2
  have fC1 : ∀ n : Wd C, n.w.cell? ⟨w.heap.size + 1 + 1 + 1, 1, none⟩ = some (.int .i64 4000) := fun n => (LC.out n).2.1.2.1
  have zC1 : ∀ n : Wd C, n.w.frozen? ⟨w.heap.size + 1 + 1 + 1, 1, none⟩ = false := fun n => (LC.out n).2.1.2.2
  have fC2 : ∀ n : Wd C, n.w.cell? ⟨w.heap.size + 1 + 1, 0, none⟩ = some (.int .i64 0) := fun n => (LC.out n).2.2.1.2.1
  have zC2 : ∀ n : Wd C, n.w.frozen? ⟨w.heap.size + 1 + 1, 0, none⟩ = false := fun n => (LC.out n).2.2.1.2.2
  have fC3 : ∀ n : Wd C, n.w.cell? ⟨w.heap.size + 1 + 1, 1, none⟩ = some (.int .i64 0) := fun n => (LC.out n).2.2.2.1.2.1
  have zC3 : ∀ n : Wd C, n.w.frozen? ⟨w.heap.size + 1 + 1, 1, none⟩ = false := fun n => (LC.out n).2.2.2.1.2.2
  have fC4 : ∀ n : Wd C, n.w.cell? ⟨w.heap.size + 1, 0, none⟩ = some (.int .i64 c.id) := fun n => (LC.out n).2.2.2.2.1.2.1
  have fC5 : ∀ n : Wd C, n.w.cell? ⟨w.heap.size + 1, 1, none⟩ = some (.int .i64 c.year) := fun n => (LC.out n).2.2.2.2.2.1.2.1
  have fC6 : ∀ n : Wd C, n.w.cell? ⟨w.heap.size + 1, 2, none⟩ = some (.int .i64 c.lo) := fun n => (LC.out n).2.2.2.2.2.2.1.2.1
  have fC7 : ∀ n : Wd C, n.w.cell? ⟨w.heap.size + 1, 3, none⟩ = some (.int .i64 c.hi) := fun n => (LC.out n).2.2.2.2.2.2.2.1.2.1
  have fC8 : ∀ n : Wd C, n.w.cell? ⟨w.heap.size + 1, 4, none⟩ = some (.int .i64 c.wear) := fun n => (LC.out n).2.2.2.2.2.2.2.2.1.2.1
  have fC9 : ∀ n : Wd C, n.w.cell? ⟨w.heap.size, 0, none⟩ = some (.slice q1 cs.length c1) := fun n => (LC.out n).2.2.2.2.2.2.2.2.2.1.2.1
  have fC10 : ∀ n : Wd C, n.w.cell? ⟨w.heap.size, 1, none⟩ = some (.slice q2 ps.length c2) := fun n => (LC.out n).2.2.2.2.2.2.2.2.2.2.1.2.1
  have fC11 : ∀ n : Wd C, n.w.cell? ⟨w.heap.size, 2, none⟩ = some (.slice q3 rs.length c3) := fun n => (LC.out n).2.2.2.2.2.2.2.2.2.2.2.1.2.1
  clear S0 hC0
  have S0 : St w c0.w (spL w.heap.size c.id (.slice q3 rs.length c3) (rsp c y (rs.take 0))) := ⟨BC.out c0, by
    obtain ⟨a1, a2, a3, a4, a5, -, -, -, -, -, -, a6, -⟩ := LC.out c0
    exact ⟨a1, a2, a3, a4, a5, a6, trivial⟩⟩
  obtain ⟨v2, hv2⟩ : ∃ v, (Value.slice q3 rs.length c3) = v := ⟨_, rfl⟩
  obtain ⟨w0, hw0⟩ : ∃ w0, c0.w = w0 := ⟨_, rfl⟩
  rw [hw0] at S0 ⊢
  clear fC0 fC1 fC2 fC3 fC4 fC5 fC6 fC7 fC8 fC9 fC10 fC11 zC0 zC1 zC2 zC3 LC BC HC hne hw0 v2 hv2 c0
  go_wp2_with fail
  go_loopw [8] (fun i wr => ∃ (k : Nat), St w wr (spL w.heap.size c.id (.slice q3 rs.length c3) (rsp c y (rs.take k))) ∧ i = .int .i64 (k : Int) ∧ k ≤ rs.length) (fun i wr => rs.length - (intOf i).toNat)
  case atStart => exact ⟨0, S0, rfl, Nat.zero_le _⟩
  case round =>
    obtain ⟨k, hS, rfl, hk⟩ := hrel
    have HS := Lib.hid hS
    clear S0
    by_cases hlt : k < rs.length
    · have hsn := rsp_snoc c y (rs.take k) rs[k]
      rw [← take_snocG rs k hlt] at hsn
      rcases H.out with h0 | ⟨b, o, he, hb, hc⟩
      · exact absurd hlt (by simp [show rs = [] from h0])
      obtain rfl : q3 = some ⟨b, o, none⟩ := he
      obtain ⟨d1, d2, d3, d4, d5⟩ := hc k rs[k] (List.getElem?_eq_getElem hlt)
      have b1 := (hS.b.cell (p := ⟨b, o + k * 5, none⟩) hb).trans d1
      have b2 := (hS.b.cell (p := ⟨b, o + k * 5 + 1, none⟩) hb).trans d2
      have b3 := (hS.b.cell (p := ⟨b, o + k * 5 + 2, none⟩) hb).trans d3
      have b4 := (hS.b.cell (p := ⟨b, o + k * 5 + 3, none⟩) hb).trans d4
      have b5 := (hS.b.cell (p := ⟨b, o + k * 5 + 4, none⟩) hb).trans d5
      have hyr := HR.out rs[k] (List.getElem_mem hlt)
      obtain ⟨r, hr⟩ : ∃ p, rs[k] = p := ⟨_, rfl⟩
      simp only [show rs[k] = r from hr] at b1 b2 b3 b4 b5 hsn hyr
      obtain ⟨a, ha⟩ : ∃ a, rsp c y (rs.take k) = a := ⟨_, rfl⟩
      rw [ha] at hsn HS
      have HSN := Lib.hid hsn
      have hSa := HS.out
      obtain ⟨lo, hi⟩ := a
      obtain ⟨⟨z0, f0, y0⟩, ⟨-, f1, y1⟩, -, -, ⟨z1, f2, -⟩, ⟨z2, f3, -⟩, -⟩ := hSa.c
      have hlt' : (k : Int) < (rs.length : Int) := by omega
      have hw1 : wrap64 (r.year - 1) = r.year - 1 := w64 (by omega)
      have hne0 : w.heap.size + 1 + 1 + 1 ≠ wr.heap.size := by omega
      clear d1 d2 d3 d4 d5 hc hb hS hr ha hsn hSa hyr
      by_cases hch : r.ch = c.id
      · by_cases hy : r.year ≤ y
        · have hch' : (r.ch != c.id) = false := by simpa using hch
          have hst : stp c y (lo, hi) r = (max lo r.year, hi) := by unfold stp; rw [if_neg (by simpa using hch), if_pos hy]
          have HST := Lib.hid hst
          clear hst hch
          go_wp2_with fail
          go_roundw
          case rel => exact ⟨k + 1, by rw [HSN.out, HST.out]; exact St.al ⟨below_grownB HS.out.b (by omega) (set_grown _ _ _ _), spL_lo HS.out.c⟩ _, by simp, hlt⟩
          case measure => simp [intOf]; omega
        · have hch' : (r.ch != c.id) = false := by simpa using hch
          have hst : stp c y (lo, hi) r = (lo, min hi (r.year - 1)) := by unfold stp; rw [if_neg (by simpa using hch), if_neg hy]
          have HST := Lib.hid hst
          clear hst hch
          go_wp2_with fail
          go_roundw
          case rel => exact ⟨k + 1, by rw [HSN.out, HST.out]; exact St.al ⟨below_grownB HS.out.b (by omega) (set_grown _ _ _ _), spL_hi HS.out.c⟩ _, by simp, hlt⟩
          case measure => simp [intOf]; omega
      · have hch' : (r.ch != c.id) = true := by simpa using hch
        have hst : stp c y (lo, hi) r = (lo, hi) := by unfold stp; rw [if_pos hch]
        have HST := Lib.hid hst
        clear hst hch
        go_wp2_with fail
        go_roundw
        case rel => exact ⟨k + 1, by rw [HSN.out, HST.out]; exact HS.out.al _, by simp, hlt⟩
        case measure => simp [intOf]; omega
    · obtain rfl : k = rs.length := by omega
      rw [List.take_length] at hS HS
      obtain ⟨lo, hi⟩ := rsp c y rs
      obtain ⟨⟨z0, f0, y0⟩, ⟨-, f1, y1⟩, ⟨-, g0, x0⟩, ⟨-, g1, x1⟩, ⟨z1, f2, -⟩, ⟨z2, f3, -⟩, -⟩ := hS.c
      clear hS
      go_wp2_with fail
      refine bodyPost_ret (v := spv (rsp c y rs).1 (rsp c y rs).2) (by simp [results, Tryz.results73, go_sem, g0, g1]) rfl ⟨rfl, ?_⟩
      exact below_grownB HS.out.b (Nat.le_add_right _ 2) (grown_trans (set_grown _ _ _ _) (set_grown _ _ _ _))
end Go.Proofs.YtcejmfgbfdhflaaGreat
namespace Go.Proofs.YtcejmfgbfdhflaaGreat
open Go.RowKit Go.Shelf Go.BigFrame Go.Sort
attribute [local go_sem] World.cell?_alloc_some
theorem sorted_cnt (y : Int) : ∀ (ys : List Int), ys.Pairwise (fun a b => a ≤ b) → ∀ j, (h : j < ys.length) → (ys[j] ≤ y ↔ j < cntU ys y)
  | [], _, j, h => by simp at h
  | a :: l, hs, j, h => by
    rw [List.pairwise_cons] at hs
    by_cases ha : a ≤ y
    · have hc : cntU (a :: l) y = cntU l y + 1 := by simp [cntU, ha]
      match j, h with
      | 0, h => rw [hc]; simp [ha]
      | j + 1, h =>
        have := sorted_cnt y l hs.2 j (by simpa using h)
        rw [hc, List.getElem_cons_succ, this]; omega
    · have hc : cntU (a :: l) y = 0 := by
        unfold cntU
        rw [List.countP_eq_zero]
        intro b hb
        rcases List.mem_cons.1 hb with rfl | hb
        · simpa using ha
        · have := hs.1 b hb
          simp; omega
      rw [hc]
      match j, h with
      | 0, h => simp; omega
      | j + 1, h =>
        have hj : j < l.length := by simpa using h
        have := hs.1 l[j] (List.getElem_mem hj)
        rw [List.getElem_cons_succ]; omega
/-- What the fold over the repairs finds. -/
structure RspP (c : Ch) (y : Int) (l : List Pf) (a : Int × Int) : Prop where
  p1 : ∃ t ∈ begs l c, t.year ≤ y ∧ a.1 = t.year
  p2 : ∀ t ∈ begs l c, t.year ≤ y → t.year ≤ a.1
  p3 : ∀ t ∈ begs l c, y < t.year → a.2 ≤ t.year - 1
  p4 : a.2 = 4000 ∨ ∃ t ∈ begs l c, y < t.year ∧ a.2 = t.year - 1
theorem begs_snoc (l : List Pf) (r : Pf) (c : Ch) : begs (l ++ [r]) c = begs l c ++ (if r.ch = c.id then [r.th] else []) := by
  unfold begs
  rw [List.filter_append, List.map_append, List.cons_append]
  congr 2
  by_cases h : r.ch = c.id <;> simp [h]
theorem rsp_p (c : Ch) (y : Int) (l : List Pf) (hy : c.year ≤ y) : ∀ k, k ≤ l.length → RspP c y (l.take k) (rsp c y (l.take k))
  | 0, _ => by
    rw [List.take_zero]
    refine ⟨⟨c.th, List.mem_cons_self, hy, rfl⟩, fun t ht h => ?_, fun t ht h => ?_, .inl rfl⟩
    · obtain rfl : t = c.th := by simpa [begs] using ht
      exact Int.le_refl _
    · obtain rfl : t = c.th := by simpa [begs] using ht
      have : c.th.year = c.year := rfl
      omega
  | k + 1, h => by
    have ih := rsp_p c y l hy k (by omega)
    rw [take_snocG l k (by omega), rsp_snoc]
    obtain ⟨r, hr⟩ : ∃ r, l[k] = r := ⟨_, rfl⟩
    rw [hr]
    generalize rsp c y (l.take k) = a at ih ⊢
    obtain ⟨lo, hi⟩ := a
    obtain ⟨⟨t0, m0, q0, e0⟩, h2, h3, h4⟩ := ih
    simp only at e0 h2 h3 h4
    have hth : r.th.year = r.year := rfl
    unfold stp
    by_cases hc : r.ch = c.id
    · rw [if_neg (by simpa using hc)]
      have hb : begs (l.take k ++ [r]) c = begs (l.take k) c ++ [r.th] := by rw [begs_snoc, if_pos hc]
      by_cases hle : r.year ≤ y
      · rw [if_pos hle]
        refine ⟨?_, fun t ht hty => ?_, fun t ht hty => ?_, ?_⟩
        · rw [hb]
          rcases Int.le_total lo r.year with e | e
          · exact ⟨r.th, List.mem_append_right _ (List.mem_singleton_self _), by omega, by show max lo r.year = _; omega⟩
          · exact ⟨t0, List.mem_append_left _ m0, q0, by show max lo r.year = _; omega⟩
        · show t.year ≤ max lo r.year
          rw [hb] at ht
          rcases List.mem_append.1 ht with ht | ht
          · have := h2 t ht hty; omega
          · obtain rfl := List.mem_singleton.1 ht; omega
        · show hi ≤ t.year - 1
          rw [hb] at ht
          rcases List.mem_append.1 ht with ht | ht
          · exact h3 t ht hty
          · obtain rfl := List.mem_singleton.1 ht; omega
        · rcases h4 with e | ⟨t, m, q, e⟩
          · exact .inl e
          · exact .inr ⟨t, by rw [hb]; exact List.mem_append_left _ m, q, e⟩
      · rw [if_neg hle]
        refine ⟨⟨t0, by rw [hb]; exact List.mem_append_left _ m0, q0, e0⟩, fun t ht hty => ?_, fun t ht hty => ?_, ?_⟩
        · show t.year ≤ lo
          rw [hb] at ht
          rcases List.mem_append.1 ht with ht | ht
          · exact h2 t ht hty
          · obtain rfl := List.mem_singleton.1 ht; omega
        · show min hi (r.year - 1) ≤ t.year - 1
          rw [hb] at ht
          rcases List.mem_append.1 ht with ht | ht
          · have := h3 t ht hty; omega
          · obtain rfl := List.mem_singleton.1 ht; omega
        · rw [hb]
          rcases Int.le_total hi (r.year - 1) with e | e
          · rcases h4 with e2 | ⟨t, m, q, e2⟩
            · exact .inl (by show min hi (r.year - 1) = 4000; omega)
            · exact .inr ⟨t, List.mem_append_left _ m, q, by show min hi (r.year - 1) = _; omega⟩
          · exact .inr ⟨r.th, List.mem_append_right _ (List.mem_singleton_self _), by omega, by show min hi (r.year - 1) = _; omega⟩
    · rw [if_pos hc]
      have hb : begs (l.take k ++ [r]) c = begs (l.take k) c := by rw [begs_snoc, if_neg hc, List.append_nil]
      exact ⟨by rw [hb]; exact ⟨t0, m0, q0, e0⟩, by rw [hb]; exact h2, by rw [hb]; exact h3, by rw [hb]; exact h4⟩
theorem rsp_eq {x : WA} {c : Ch} {y : Int} (hc : OkC x c) (hy : c.year ≤ y) : rsp c y x.rs = ((spO x c y).lo, (spO x c y).hi) := by
  have hp := rsp_p c y x.rs hy x.rs.length (Nat.le_refl _)
  rw [List.take_length] at hp
  have hcn := cnt_pos (x := x) hy
  have hix := ix_lt (x := x) hy
  have hpm : (tsO x c).Perm (begs x.rs c) := srtB_perm _
  have hup : ((tsO x c).map (·.year)).Pairwise (fun a b => a ≤ b) := by rw [List.pairwise_map]; exact srtB_up _
  have hsc := sorted_cnt y _ hup
  rw [hcn] at hsc
  have hok := begs_ok hc
  show rsp c y x.rs = (((tsO x c).getD (ixO x c y) dTh).year, hiP (tsO x c) (ixO x c y))
  unfold hiP
  generalize tsO x c = ts at *
  generalize ixO x c y = ix at *
  obtain ⟨⟨t0, m0, q0, e0⟩, h2, h3, h4⟩ := hp
  have mem : ∀ t ∈ begs x.rs c, ∃ j, ∃ h : j < ts.length, ts[j] = t := fun t ht => by
    obtain ⟨j, hj, e⟩ := List.getElem_of_mem (hpm.symm.subset ht)
    exact ⟨j, hj, e⟩
  have yr : ∀ j, (h : j < ts.length) → (ts[j].year ≤ y ↔ j < ix + 1) := fun j h => by
    have := hsc j (by simpa using h)
    rwa [List.getElem_map] at this
  have srt : ∀ i j, (hi : i < ts.length) → (hj : j < ts.length) → i ≤ j → ts[i].year ≤ ts[j].year := fun i j hi hj hij => by
    rcases Nat.lt_or_ge i j with h | h
    · have := List.pairwise_iff_getElem.1 hup i j (by simpa using hi) (by simpa using hj) h
      rwa [List.getElem_map, List.getElem_map] at this
    · obtain rfl : i = j := by omega
      exact Int.le_refl _
  have g1 : ts.getD ix dTh = ts[ix] := by simp [List.getD, hix]
  have k1 : ts[ix].year ≤ (rsp c y x.rs).1 := h2 _ (hpm.subset (List.getElem_mem hix)) ((yr ix hix).2 (by omega))
  have k2 : (rsp c y x.rs).1 ≤ ts[ix].year := by
    rw [e0]
    obtain ⟨j, hj, rfl⟩ := mem t0 m0
    exact srt j ix hj hix (by have := (yr j hj).1 q0; omega)
  have k3 : (rsp c y x.rs).2 = if ix + 1 < ts.length then (ts.getD (ix + 1) dTh).year - 1 else 4000 := by
    by_cases hl : ix + 1 < ts.length
    · rw [if_pos hl, show ts.getD (ix + 1) dTh = ts[ix + 1] from by simp [List.getD, hl]]
      have hgt : y < ts[ix + 1].year := by have := (yr (ix + 1) hl); omega
      have hm := hpm.subset (List.getElem_mem hl)
      have u1 := h3 _ hm hgt
      have u2 := (okTh_iff.1 (hok _ hm).1).1.2
      rcases h4 with e | ⟨t, m, q, e⟩
      · omega
      · obtain ⟨j, hj, rfl⟩ := mem t m
        have := srt (ix + 1) j hl hj (by have := yr j hj; omega)
        omega
    · rw [if_neg hl]
      rcases h4 with e | ⟨t, m, q, e⟩
      · exact e
      · obtain ⟨j, hj, rfl⟩ := mem t m
        have := yr j hj
        omega
  rw [g1]
  exact Prod.ext (Int.le_antisymm k2 k1) k3

set_option maxRecDepth 100000 in
set_option maxHeartbeats 6400000 in
theorem rSpell_any (x : WA) (ch y : Int) (w : World) (h : x.At w) :
    Calls Tryz.prog 22 #[x.v, .int .i64 ch, .int .i64 y] w fun e w' => e = .returned (.tuple #[spv (slLo x ch y) (slHi x ch y), .int .i64 (sE x ch y)]) ∧ Below w.heap.size w w' := by
  have K1 := fun W (hb : Below w.heap.size w W) => rCheck_any x W (h.keep hb)
  have K2 := fun W (hb : Below w.heap.size w W) => chainAt_any x ch W (h.keep hb)
  have K3 : chk x = 0 → ∀ c, chF x.cs ch = some c → c.year ≤ y → ∀ W, Below w.heap.size w W → Calls Tryz.prog 73 #[x.v, c.v, .int .i64 y] W fun e w' => e = .returned (spv (spO x c y).lo (spO x c y).hi) ∧ Below W.heap.size W w' := fun hk c hc hy W hb => by
    have hw := okW_of hk
    have hkc := okC_of hw hc
    have := rspell_any x c y W (h.keep hb) (fun r hr => by
      have k := okRp_iff.1 (hw.rp r hr)
      have k2 := okCh_iff.1 (hw.ch _ (chF_mem (Option.some_get k.1).symm).1)
      have k3 := chOr_some (Option.some_get k.1).symm
      rw [← k3] at k2
      omega)
    rwa [rsp_eq hkc hy] at this
  have H := Lib.hid h.cs
  obtain ⟨A, hA⟩ : ∃ A, slLo x ch y = A := ⟨_, rfl⟩
  obtain ⟨B1, hB1⟩ : ∃ B, slHi x ch y = B := ⟨_, rfl⟩
  obtain ⟨E, hE⟩ : ∃ E, sE x ch y = E := ⟨_, rfl⟩
  rw [hA, hB1, hE]
  obtain ⟨k, hk⟩ : ∃ k, chk x = k := ⟨_, rfl⟩
  have HE1 : Hid (k ≠ 0 → E = k ∧ A = 0 ∧ B1 = 0) := fun e => by
    have e1 : sE x ch y = k := by unfold sE; rw [if_pos (by rw [hk]; exact e), hk]
    refine ⟨by rw [← hE, e1], ?_, ?_⟩
    · rw [← hA, slLo, if_neg (by rw [e1]; exact e)]
    · rw [← hB1, slHi, if_neg (by rw [e1]; exact e)]
  have HE2 : Hid (k = 0 → (chF x.cs ch).isSome = false → E = 5 ∧ A = 0 ∧ B1 = 0) := fun e e' => by
    have e1 : sE x ch y = 5 := by unfold sE; rw [if_neg (by simp [hk, e]), if_pos e']
    refine ⟨by rw [← hE, e1], ?_, ?_⟩
    · rw [← hA, slLo, if_neg (by rw [e1]; decide)]
    · rw [← hB1, slHi, if_neg (by rw [e1]; decide)]
  have HE3 : Hid (k = 0 → ∀ c, chF x.cs ch = some c → inB c.year 4000 y = false → E = 1 ∧ A = 0 ∧ B1 = 0) := fun e c hc e' => by
    have e1 : sE x ch y = 1 := by unfold sE; rw [if_neg (by simp [hk, e]), hc, if_neg (by simp), chOr_some hc, if_pos e']
    refine ⟨by rw [← hE, e1], ?_, ?_⟩
    · rw [← hA, slLo, if_neg (by rw [e1]; decide)]
    · rw [← hB1, slHi, if_neg (by rw [e1]; decide)]
  have HE4 : Hid (k = 0 → ∀ c, chF x.cs ch = some c → inB c.year 4000 y = true → E = 0 ∧ (spO x c y).lo = A ∧ (spO x c y).hi = B1) := fun e c hc e' => by
    have e1 : sE x ch y = 0 := sE_at (hk.trans e) hc (inB_iff.1 e')
    refine ⟨by rw [← hE, e1], ?_, ?_⟩
    · rw [← hA, slLo, if_pos e1, chOr_some hc]
    · rw [← hB1, slHi, if_pos e1, chOr_some hc]
  have K4 := fun c : Ch => fun W => Lib.hid (rin_any y c.year 4000 W)
  rw [hk] at K3
  simp only [hk] at K1
  obtain ⟨f, hf⟩ : ∃ f : Ch → Spl, (fun c => spO x c y) = f := ⟨_, rfl⟩
  have hf' : ∀ c, spO x c y = f c := fun c => by rw [← hf]
  simp only [hf'] at K3 HE4
  have HE4 : Hid (k = 0 → ∀ c, chF x.cs ch = some c → inB c.year 4000 y = true → E = 0 ∧ (f c).lo = A ∧ (f c).hi = B1) := HE4
  have HK3 := Lib.hid K3
  clear h hA hB1 hE hk K3 hf hf'
  obtain ⟨cs, ps, rs, q1, q2, q3, c1, c2, c3⟩ := x
  simp only [WA.v] at *
  go_enter Tryz.func22, Tryz.ntmps22
  go_upto_region 1 with fail
  obtain ⟨W0, hW0⟩ : ∃ W0, ((w).alloc (.cells #[.slice q1 cs.length c1, .slice q2 ps.length c2, .slice q3 rs.length c3] 26)).alloc (.cells #[.int .i64 0, .int .i64 0] 30) = W0 := ⟨_, rfl⟩
  have S0 : St w W0 [(w.heap.size + 1, 0, .int .i64 0), (w.heap.size + 1, 1, .int .i64 0), (w.heap.size, 0, .slice q1 cs.length c1), (w.heap.size, 1, .slice q2 ps.length c2), (w.heap.size, 2, .slice q3 rs.length c3)] := by rw [← hW0]; exact (((St.nil w)).box #[.slice q1 cs.length c1, .slice q2 ps.length c2, .slice q3 rs.length c3] 26 (w.heap.size) (by simp)).box #[.int .i64 0, .int .i64 0] 30 (w.heap.size + 1) (by simp)
  rw [hW0]
  clear hW0
  obtain ⟨C, hC0, HC, LC, BC, hne⟩ := cls S0
  haveI := hne
  obtain ⟨c0, rfl⟩ : ∃ n : Wd C, W0 = n.w := ⟨⟨_, hC0⟩, rfl⟩
  have fC0 : ∀ n : Wd C, n.w.cell? ⟨w.heap.size + 1, 0, none⟩ = some (.int .i64 0) := fun n => (LC.out n).1.2.1
  have zC0 : ∀ n : Wd C, n.w.frozen? ⟨w.heap.size + 1, 0, none⟩ = false := fun n => (LC.out n).1.2.2
  have fC1 : ∀ n : Wd C, n.w.cell? ⟨w.heap.size + 1, 1, none⟩ = some (.int .i64 0) := fun n => (LC.out n).2.1.2.1
  have zC1 : ∀ n : Wd C, n.w.frozen? ⟨w.heap.size + 1, 1, none⟩ = false := fun n => (LC.out n).2.1.2.2
  have fC2 : ∀ n : Wd C, n.w.cell? ⟨w.heap.size, 0, none⟩ = some (.slice q1 cs.length c1) := fun n => (LC.out n).2.2.1.2.1
  have fC3 : ∀ n : Wd C, n.w.cell? ⟨w.heap.size, 1, none⟩ = some (.slice q2 ps.length c2) := fun n => (LC.out n).2.2.2.1.2.1
  have fC4 : ∀ n : Wd C, n.w.cell? ⟨w.heap.size, 2, none⟩ = some (.slice q3 rs.length c3) := fun n => (LC.out n).2.2.2.2.1.2.1
  clear S0 hC0
  have D1 := cinL HC BC K1
  clear K1
  by_cases hk0 : k = 0
  · subst hk0
    go_upto_region 4 with (first | first | (go_at_call 24; with_reducible refine (D1 _).out.mono ?_; rintro e w' ⟨rfl, n, rfl⟩))
    go_wp2_with fail
    refine (K2 _ (BC.out _)).mono ?_
    rintro e w1 ⟨⟨m, rfl, hm⟩, hb⟩
    obtain ⟨n2, rfl⟩ : ∃ n : Wd C, w1 = n.w := ⟨⟨_, HC.out _ _ (Wd.h _) hb⟩, rfl⟩
    clear hb K2 D1
    have hsz : w.heap.size + 1 < n2.w.heap.size := (LC.out n2).1.1
    rcases hm with ⟨hz, rfl⟩ | ⟨j, hj, rfl, hc⟩
    · obtain ⟨rfl, rfl, rfl⟩ := HE2.out (by first | rfl | trivial) hz
      clear hz
      go_wp2_with fail
      refine bodyPost_ret (v := .tuple #[spv 0 0, .int .i64 5]) (by simp [results, Tryz.results22, go_sem, fC0, fC1]) rfl ⟨rfl, ?_⟩
      exact set2 (BC.out _) (by omega) _ _
    · rcases H.out with h0 | ⟨b, o, he, hb, hcc⟩
      · exact absurd hj (by simp [show cs = [] from h0])
      obtain rfl : q1 = some ⟨b, o, none⟩ := he
      obtain ⟨d1, d2, d3, d4, d5⟩ := hcc j cs[j] (List.getElem?_eq_getElem hj)
      obtain ⟨c, hcj⟩ : ∃ c, cs[j] = c := ⟨_, rfl⟩
      simp only [show cs[j] = c from hcj] at d1 d2 d3 d4 d5 hc
      have fY0 : ∀ n : Wd C, n.w.cell? ⟨b, o + j * 5, none⟩ = some (.int .i64 c.id) := fun n => ((BC.out n).cell (p := ⟨b, o + j * 5, none⟩) hb).trans d1
      have fY1 : ∀ n : Wd C, n.w.cell? ⟨b, o + j * 5 + 1, none⟩ = some (.int .i64 c.year) := fun n => ((BC.out n).cell (p := ⟨b, o + j * 5 + 1, none⟩) hb).trans d2
      have fY2 : ∀ n : Wd C, n.w.cell? ⟨b, o + j * 5 + 2, none⟩ = some (.int .i64 c.lo) := fun n => ((BC.out n).cell (p := ⟨b, o + j * 5 + 2, none⟩) hb).trans d3
      have fY3 : ∀ n : Wd C, n.w.cell? ⟨b, o + j * 5 + 3, none⟩ = some (.int .i64 c.hi) := fun n => ((BC.out n).cell (p := ⟨b, o + j * 5 + 3, none⟩) hb).trans d4
      have fY4 : ∀ n : Wd C, n.w.cell? ⟨b, o + j * 5 + 4, none⟩ = some (.int .i64 c.wear) := fun n => ((BC.out n).cell (p := ⟨b, o + j * 5 + 4, none⟩) hb).trans d5
      have K5 := K4 c
      have hj2 : (j : Int) < (cs.length : Int) := by omega
      obtain ⟨z, hz⟩ : ∃ z, inB c.year 4000 y = z := ⟨_, rfl⟩
      simp only [hz] at K5
      have HZ := Lib.hid hz
      have HC2 := Lib.hid hc
      clear d1 d2 d3 d4 d5 hcc hb hcj hz hc K4
      cases z
      · obtain ⟨rfl, rfl, rfl⟩ := HE3.out (by first | rfl | trivial) c HC2.out HZ.out
        go_wp2_with (go_at_call 72; with_reducible refine (K5 _).out.mono ?_; rintro e w' ⟨rfl, rfl⟩)
        refine bodyPost_ret (v := .tuple #[spv 0 0, .int .i64 1]) (by simp [results, Tryz.results22, go_sem, fC0, fC1]) rfl ⟨rfl, ?_⟩
        exact set2 (BC.out _) (by omega) _ _
      · obtain ⟨rfl, hA, hB1⟩ := HE4.out (by first | rfl | trivial) c HC2.out HZ.out
        have K6 := HK3.out (by first | rfl | trivial) c HC2.out (inB_iff.1 HZ.out).1
        rw [hA, hB1] at K6
        clear hA hB1
        go_upto_region 9 with (go_at_call 72; with_reducible refine (K5 _).out.mono ?_; rintro e w' ⟨rfl, rfl⟩)
        clear K5
        refine wp_region_vars 8 8 C (fun i => i) (fun _ => .cells #[] 30) HC.out (HC.out _ _ (Wd.h _) (below_dr _)) (by kernel_rfl) (by kernel_rfl) (Nat.le_refl _) (fun i h1 h2 => absurd h1 (by omega)) ?hsl ?hq
        case hsl => rfl
        case hq =>
          apply Exists.intro
          apply And.intro
          · intro D hD hDC hneD
            have HD := Lib.hid hD
            have g0 : ∀ n : Wd D, n.w.cell? ⟨w.heap.size, 0, none⟩ = some (.slice (some ⟨b, o, none⟩) cs.length c1) := fun n => fC2 ⟨n.w, hDC _ n.h⟩
            have g1 : ∀ n : Wd D, n.w.cell? ⟨w.heap.size, 1, none⟩ = some (.slice q2 ps.length c2) := fun n => fC3 ⟨n.w, hDC _ n.h⟩
            have g2 : ∀ n : Wd D, n.w.cell? ⟨w.heap.size, 2, none⟩ = some (.slice q3 rs.length c3) := fun n => fC4 ⟨n.w, hDC _ n.h⟩
            have e0 : ∀ n : Wd D, n.w.cell? ⟨b, o + j * 5, none⟩ = some (.int .i64 c.id) := fun n => fY0 ⟨n.w, hDC _ n.h⟩
            have e1 : ∀ n : Wd D, n.w.cell? ⟨b, o + j * 5 + 1, none⟩ = some (.int .i64 c.year) := fun n => fY1 ⟨n.w, hDC _ n.h⟩
            have e2 : ∀ n : Wd D, n.w.cell? ⟨b, o + j * 5 + 2, none⟩ = some (.int .i64 c.lo) := fun n => fY2 ⟨n.w, hDC _ n.h⟩
            have e3 : ∀ n : Wd D, n.w.cell? ⟨b, o + j * 5 + 3, none⟩ = some (.int .i64 c.hi) := fun n => fY3 ⟨n.w, hDC _ n.h⟩
            have e4 : ∀ n : Wd D, n.w.cell? ⟨b, o + j * 5 + 4, none⟩ = some (.int .i64 c.wear) := fun n => fY4 ⟨n.w, hDC _ n.h⟩
            have HBD : Hid (∀ n : Wd D, Below w.heap.size w n.w) := fun n => BC.out ⟨n.w, hDC _ n.h⟩
            have D6 := cinL HD HBD K6
            haveI := hneD
            simp only [List.take_succ_cons, List.take_zero]
            repeat (go_big_quiet_step (first | with_reducible exact (D6 _).out))
            exact wpQuiet_nil rfl
          · intro W bl hW _ _
            obtain ⟨n0, rfl⟩ : ∃ n : Wd C, W = n.w := ⟨⟨W, hW⟩, rfl⟩
            have hpa : ∀ (f : Nat → Value) (A : Act), putAll (fun i => i) f 0 8 A = A := fun _ _ => rfl
            simp only [List.drop_succ_cons, List.drop_zero, Nat.sub_self, hpa]
            have hs0 : w.heap.size + 1 < n0.w.heap.size := (LC.out n0).1.1
            go_wp2_with fail
            refine bodyPost_ret (v := .tuple #[spv A B1, .int .i64 0]) (by simp [results, Tryz.results22, go_sem, fC0, fC1]) rfl ⟨rfl, ?_⟩
            exact set2 (BC.out _) (by omega) _ _
  · have hb : (k != 0) = true := by simpa using hk0
    obtain ⟨rfl, rfl, rfl⟩ := HE1.out hk0
    clear hk0
    go_wp2_with (first | first | (go_at_call 24; with_reducible refine (D1 _).out.mono ?_; rintro e w' ⟨rfl, n, rfl⟩))
    refine bodyPost_ret (v := .tuple #[spv 0 0, .int .i64 E]) (by simp [results, Tryz.results22, go_sem, fC0, fC1]) rfl ⟨rfl, ?_⟩
    exact set2 (BC.out _) (by omega) _ _
end Go.Proofs.YtcejmfgbfdhflaaGreat
namespace Go.Proofs.YtcejmfgbfdhflaaGreat
open Go.RowKit Go.Shelf Go.BigFrame Go.Sort
attribute [local go_sem] World.cell?_alloc_some
def fewB (x : WA) : Bool := decide (x.cs.length ≤ 40) && decide (x.ps.length + x.rs.length ≤ 80)
set_option maxRecDepth 100000 in
set_option maxHeartbeats 1600000 in
theorem few_any (x : WA) (w : World) (n1 : x.cs.length ≤ 140737488355327) (n2 : x.ps.length ≤ 140737488355327) (n3 : x.rs.length ≤ 140737488355327) : Calls Tryz.prog 19 #[x.v] w fun e w' => e = .returned (.bool (fewB x)) ∧ Below w.heap.size w w' := by
  obtain ⟨F, hF⟩ : ∃ F, fewB x = F := ⟨_, rfl⟩
  rw [hF]
  unfold fewB at hF
  obtain ⟨cs, ps, rs, q1, q2, q3, c1, c2, c3⟩ := x
  simp only [WA.v] at *
  have HF : Hid ((decide (cs.length ≤ 40) && decide (ps.length + rs.length ≤ 80)) = F) := hF
  clear hF
  have hw : wrap64 ((ps.length : Int) + (rs.length : Int)) = (ps.length : Int) + (rs.length : Int) := w64 (by omega)
  go_enter Tryz.func19, Tryz.ntmps19
  go_upto_region 1 with fail
  by_cases h1 : cs.length ≤ 40
  · have h1' : decide ((cs.length : Int) ≤ 40) = true := by simp; omega
    by_cases h2 : ps.length + rs.length ≤ 80
    · have h2' : decide ((ps.length : Int) + (rs.length : Int) ≤ 80) = true := by simp; omega
      obtain rfl : true = F := by rw [← HF.out]; simp [h1, h2]
      clear h1 h2
      go_wp2_with fail
      go_ret
      exact ⟨rfl, below_al _ _⟩
    · have h2' : decide ((ps.length : Int) + (rs.length : Int) ≤ 80) = false := by simp; omega
      obtain rfl : false = F := by rw [← HF.out]; simp [h1, h2]
      clear h1 h2
      go_wp2_with fail
      go_ret
      exact ⟨rfl, below_al _ _⟩
  · have h1' : decide ((cs.length : Int) ≤ 40) = false := by simp; omega
    obtain rfl : false = F := by rw [← HF.out]; simp [h1]
    clear h1
    go_wp2_with fail
    go_ret
    exact ⟨rfl, below_al _ _⟩
set_option maxRecDepth 100000 in
set_option maxHeartbeats 6400000 in
theorem chainageChecks_law (x : WA) (ch y : Int) (w : World) (n1 : x.cs.length ≤ 140737488355327) (n2 : x.ps.length ≤ 140737488355327) (n3 : x.rs.length ≤ 140737488355327) (h : fewB x = true → x.At w) : Calls Tryz.prog 3 #[x.v, .int .i64 ch, .int .i64 y] w fun e w' => e = .returned (.bool true) ∧ Below w.heap.size w w' := by
  have K1 := fun W => few_any x W n1 n2 n3
  have KS := fun W => sanity_any W
  have K2 : fewB x = true → ∀ W, Below w.heap.size w W → _ := fun e W hb => Spell_any x ch y W ((h e).keep hb)
  have K3 : fewB x = true → ∀ W, Below w.heap.size w W → _ := fun e W hb => rSpell_any x ch y W ((h e).keep hb)
  have K4 : fewB x = true → ∀ W, Below w.heap.size w W → _ := fun e W hb => Check_any x W ((h e).keep hb)
  have K5 : fewB x = true → ∀ W, Below w.heap.size w W → _ := fun e W hb => rCheck_any x W ((h e).keep hb)
  obtain ⟨A, hA⟩ : ∃ A, slLo x ch y = A := ⟨_, rfl⟩
  obtain ⟨B1, hB1⟩ : ∃ B, slHi x ch y = B := ⟨_, rfl⟩
  obtain ⟨E, hE⟩ : ∃ E, sE x ch y = E := ⟨_, rfl⟩
  obtain ⟨k, hk⟩ : ∃ k, chk x = k := ⟨_, rfl⟩
  obtain ⟨z, hz⟩ : ∃ z, fewB x = z := ⟨_, rfl⟩
  simp only [hz] at K1
  simp only [hA, hB1, hE, hz] at K2 K3
  simp only [hk, hz] at K4 K5
  clear hA hB1 hE hk hz h n1 n2 n3
  obtain ⟨cs, ps, rs, q1, q2, q3, c1, c2, c3⟩ := x
  simp only [WA.v] at *
  go_enter Tryz.func3, Tryz.ntmps3
  go_upto_region 1 with fail
  obtain ⟨W0, hW0⟩ : ∃ W0, (w).alloc (.cells #[.slice q1 cs.length c1, .slice q2 ps.length c2, .slice q3 rs.length c3] 26) = W0 := ⟨_, rfl⟩
  have S0 : St w W0 [(w.heap.size, 0, .slice q1 cs.length c1), (w.heap.size, 1, .slice q2 ps.length c2), (w.heap.size, 2, .slice q3 rs.length c3)] := by rw [← hW0]; exact ((St.nil w)).box #[.slice q1 cs.length c1, .slice q2 ps.length c2, .slice q3 rs.length c3] 26 (w.heap.size) (by simp)
  rw [hW0]
  clear hW0
  obtain ⟨C, hC0, HC, LC, BC, hne⟩ := cls S0
  haveI := hne
  obtain ⟨c0, rfl⟩ : ∃ n : Wd C, W0 = n.w := ⟨⟨_, hC0⟩, rfl⟩
  have fC0 : ∀ n : Wd C, n.w.cell? ⟨w.heap.size, 0, none⟩ = some (.slice q1 cs.length c1) := fun n => (LC.out n).1.2.1
  have fC1 : ∀ n : Wd C, n.w.cell? ⟨w.heap.size, 1, none⟩ = some (.slice q2 ps.length c2) := fun n => (LC.out n).2.1.2.1
  have fC2 : ∀ n : Wd C, n.w.cell? ⟨w.heap.size, 2, none⟩ = some (.slice q3 rs.length c3) := fun n => (LC.out n).2.2.1.2.1
  clear S0 hC0
  have D1 := cin HC K1
  have DS := cin HC KS
  clear K1
  cases z
  · go_wp2_with (first | first | (go_at_call 19; with_reducible refine (D1 _).out.mono ?_; rintro e w' ⟨rfl, n, rfl⟩) | (go_at_call 20; with_reducible refine (DS _).out.mono ?_; rintro e w' ⟨rfl, n, rfl⟩))
    go_ret
    exact ⟨rfl, BC.out _⟩
  · have D2 := cinL HC BC (K2 (by first | rfl | trivial))
    go_upto_region 3 with (first | first | (go_at_call 19; with_reducible refine (D1 _).out.mono ?_; rintro e w' ⟨rfl, n, rfl⟩))
    go_upto_region 4 with (first | first | (go_at_call 21; with_reducible refine (D2 _).out.mono ?_; rintro e w' ⟨rfl, n, rfl⟩))
    obtain ⟨W0, hW0⟩ : ∃ W0, (n.w).alloc (.cells #[.int .i64 A, .int .i64 B1] 30) = W0 := ⟨_, rfl⟩
    have S0 : St w W0 [(n.w.heap.size, 0, .int .i64 A), (n.w.heap.size, 1, .int .i64 B1), (w.heap.size, 0, .slice q1 cs.length c1), (w.heap.size, 1, .slice q2 ps.length c2), (w.heap.size, 2, .slice q3 rs.length c3)] := by rw [← hW0]; exact ((⟨BC.out n, LC.out n⟩ : St w n.w _)).box #[.int .i64 A, .int .i64 B1] 30 (n.w.heap.size) (by simp)
    rw [hW0]
    clear hW0
    obtain ⟨kD, hkk⟩ : ∃ k, n.w.heap.size = k := ⟨_, rfl⟩
    have gkD : w.heap.size ≤ kD := by rw [← hkk]; exact (BC.out n).size
    rw [hkk] at S0 ⊢
    clear hkk
    obtain ⟨D, hC0, HD, LD, BD, hne⟩ := cls S0
    haveI := hne
    obtain ⟨d0, rfl⟩ : ∃ n : Wd D, W0 = n.w := ⟨⟨_, hC0⟩, rfl⟩
    have fD0 : ∀ n : Wd D, n.w.cell? ⟨kD, 0, none⟩ = some (.int .i64 A) := fun n => (LD.out n).1.2.1
    have fD1 : ∀ n : Wd D, n.w.cell? ⟨kD, 1, none⟩ = some (.int .i64 B1) := fun n => (LD.out n).2.1.2.1
    have fD2 : ∀ n : Wd D, n.w.cell? ⟨w.heap.size, 0, none⟩ = some (.slice q1 cs.length c1) := fun n => (LD.out n).2.2.1.2.1
    have fD3 : ∀ n : Wd D, n.w.cell? ⟨w.heap.size, 1, none⟩ = some (.slice q2 ps.length c2) := fun n => (LD.out n).2.2.2.1.2.1
    have fD4 : ∀ n : Wd D, n.w.cell? ⟨w.heap.size, 2, none⟩ = some (.slice q3 rs.length c3) := fun n => (LD.out n).2.2.2.2.1.2.1
    clear S0 hC0
    have D3 := cinL HD BD (K3 (by first | rfl | trivial))
    clear D1 D2 DS K2 K3
    go_upto_region 5 with (first | first | (go_at_call 22; with_reducible refine (D3 _).out.mono ?_; rintro e w' ⟨rfl, n, rfl⟩))
    obtain ⟨W0, hW0⟩ : ∃ W0, (n.w).alloc (.cells #[.int .i64 A, .int .i64 B1] 30) = W0 := ⟨_, rfl⟩
    have S0 : St w W0 [(n.w.heap.size, 0, .int .i64 A), (n.w.heap.size, 1, .int .i64 B1), (kD, 0, .int .i64 A), (kD, 1, .int .i64 B1), (w.heap.size, 0, .slice q1 cs.length c1), (w.heap.size, 1, .slice q2 ps.length c2), (w.heap.size, 2, .slice q3 rs.length c3)] := by rw [← hW0]; exact ((⟨BD.out n, LD.out n⟩ : St w n.w _)).box #[.int .i64 A, .int .i64 B1] 30 (n.w.heap.size) (by simp)
    rw [hW0]
    clear hW0
    obtain ⟨kF, hkk⟩ : ∃ k, n.w.heap.size = k := ⟨_, rfl⟩
    have gkF : w.heap.size ≤ kF := by rw [← hkk]; exact (BD.out n).size
    rw [hkk] at S0 ⊢
    clear hkk
    obtain ⟨F, hC0, HF, LF, BF, hne⟩ := cls S0
    haveI := hne
    obtain ⟨f0, rfl⟩ : ∃ n : Wd F, W0 = n.w := ⟨⟨_, hC0⟩, rfl⟩
    have fF0 : ∀ n : Wd F, n.w.cell? ⟨kF, 0, none⟩ = some (.int .i64 A) := fun n => (LF.out n).1.2.1
    have fF1 : ∀ n : Wd F, n.w.cell? ⟨kF, 1, none⟩ = some (.int .i64 B1) := fun n => (LF.out n).2.1.2.1
    have fF2 : ∀ n : Wd F, n.w.cell? ⟨kD, 0, none⟩ = some (.int .i64 A) := fun n => (LF.out n).2.2.1.2.1
    have fF3 : ∀ n : Wd F, n.w.cell? ⟨kD, 1, none⟩ = some (.int .i64 B1) := fun n => (LF.out n).2.2.2.1.2.1
    have fF4 : ∀ n : Wd F, n.w.cell? ⟨w.heap.size, 0, none⟩ = some (.slice q1 cs.length c1) := fun n => (LF.out n).2.2.2.2.1.2.1
    have fF5 : ∀ n : Wd F, n.w.cell? ⟨w.heap.size, 1, none⟩ = some (.slice q2 ps.length c2) := fun n => (LF.out n).2.2.2.2.2.1.2.1
    have fF6 : ∀ n : Wd F, n.w.cell? ⟨w.heap.size, 2, none⟩ = some (.slice q3 rs.length c3) := fun n => (LF.out n).2.2.2.2.2.2.1.2.1
    clear S0 hC0
    have D4 := cinL HF BF (K4 (by first | rfl | trivial))
    have D5 := cinL HF BF (K5 (by first | rfl | trivial))
    have D6 := cin HF KS
    clear D3 K4 K5 KS
    refine wp_region_in F (HF.out _ _ (Wd.h _) (below_dr _)) (by kernel_rfl) (by kernel_rfl) ?_
    repeat (go_big_quiet_step (first | with_reducible exact (D4 _).out | with_reducible exact (D5 _).out | with_reducible exact (D6 _).out))
    refine wpQuiet_nil ?_
    intro wx hwx
    obtain ⟨n5, rfl⟩ : ∃ n : Wd F, wx = n.w := ⟨⟨wx, hwx⟩, rfl⟩
    clear hwx
    go_wp2_with fail
    go_ret
    exact ⟨rfl, BF.out _⟩
end Go.Proofs.YtcejmfgbfdhflaaGreat
namespace Go.Proofs.YtcejmfgbfdhflaaGreat
open Go.RowKit Go.Shelf Go.BigFrame Go.Sort
attribute [local go_sem] World.cell?_alloc_some
set_option maxHeartbeats 1600000 in
theorem rlo_any (t : Th) (wear y : Int) (w : World) (ht : okTh t = true) (hw : 0 ≤ wear ∧ wear ≤ 1000) (hy : 0 ≤ y ∧ y ≤ 4000) :
    Calls Tryz.prog 204 #[.agg #[.int .i64 t.num, .int .i64 t.year, .int .i64 t.lo, .int .i64 t.hi], .int .i64 wear, .int .i64 y] w fun e w' => e = .returned (.int .i64 (lowT wear t y)) ∧ Gr w w' := by
  obtain ⟨h1, h2, h3, h4⟩ := okTh_iff.1 ht
  obtain ⟨t0, ty, tl, th⟩ := t
  simp only at h1 h2 h3 h4
  have hm := mul_bd hw (v := max 0 (ty - y)) (by omega)
  have HL : Hid (lowT wear ⟨t0, ty, tl, th⟩ y = tl - wear * max 0 (ty - y)) := rfl
  clear ht
  go_enter Tryz.func204, Tryz.ntmps204
  by_cases h : ty ≤ y
  · have e0 : max 0 (ty - y) = 0 := by omega
    go_wp2_with fail
    go_ret
    exact ⟨ret_int (by rw [HL.out, e0]; simp), Gr.al _ _⟩
  · have e0 : max 0 (ty - y) = ty - y := by omega
    rw [e0] at hm
    have w1 : wrap64 (ty - y) = ty - y := w64 (by omega)
    have w2 : wrap64 (wear * (ty - y)) = wear * (ty - y) := w64 (by omega)
    have w3 : wrap64 (tl - wear * (ty - y)) = tl - wear * (ty - y) := w64 (by omega)
    go_wp2_with fail
    go_ret
    exact ⟨ret_int (by rw [HL.out, e0]), Gr.al _ _⟩
set_option maxHeartbeats 1600000 in
theorem rhi_any (t : Th) (wear y : Int) (w : World) (ht : okTh t = true) (hw : 0 ≤ wear ∧ wear ≤ 1000) (hy : 0 ≤ y ∧ y ≤ 4000) :
    Calls Tryz.prog 205 #[.agg #[.int .i64 t.num, .int .i64 t.year, .int .i64 t.lo, .int .i64 t.hi], .int .i64 wear, .int .i64 y] w fun e w' => e = .returned (.int .i64 (highT wear t y)) ∧ Gr w w' := by
  obtain ⟨h1, h2, h3, h4⟩ := okTh_iff.1 ht
  obtain ⟨t0, ty, tl, th⟩ := t
  simp only at h1 h2 h3 h4
  have hm := mul_bd hw (v := max 0 (y - ty)) (by omega)
  have HL : Hid (highT wear ⟨t0, ty, tl, th⟩ y = th + wear * max 0 (y - ty)) := rfl
  clear ht
  go_enter Tryz.func205, Tryz.ntmps205
  by_cases h : y ≤ ty
  · have e0 : max 0 (y - ty) = 0 := by omega
    go_wp2_with fail
    go_ret
    exact ⟨ret_int (by rw [HL.out, e0]; simp), Gr.al _ _⟩
  · have e0 : max 0 (y - ty) = y - ty := by omega
    rw [e0] at hm
    have w1 : wrap64 (y - ty) = y - ty := w64 (by omega)
    have w2 : wrap64 (wear * (y - ty)) = wear * (y - ty) := w64 (by omega)
    have w3 : wrap64 (th + wear * (y - ty)) = th + wear * (y - ty) := w64 (by omega)
    go_wp2_with fail
    go_ret
    exact ⟨ret_int (by rw [HL.out, e0]), Gr.al _ _⟩
end Go.Proofs.YtcejmfgbfdhflaaGreat
namespace Go.Proofs.YtcejmfgbfdhflaaGreat
open Go.RowKit Go.Shelf Go.BigFrame Go.Sort
attribute [local go_sem] World.cell?_alloc_some
def rclB (wear : Int) (a b : Th) : Bool := decide (b.hi < lowT wear a b.year) || decide (a.hi < lowT wear b a.year)
theorem rclB_eq (wear : Int) (a b : Th) : rclB wear a b = clB wear a b := by
  have e1 : max a.year b.year - b.year = max 0 (a.year - b.year) := by omega
  have e2 : max a.year b.year - a.year = max 0 (b.year - a.year) := by omega
  have e3 : max 0 (a.year - max a.year b.year) = 0 := by omega
  have e4 : max 0 (b.year - max a.year b.year) = 0 := by omega
  unfold rclB clB lowT highT
  rw [e1, e2, e3, e4]
  rw [show max 0 (max 0 (a.year - b.year)) = max 0 (a.year - b.year) from by omega, show max 0 (max 0 (b.year - a.year)) = max 0 (b.year - a.year) from by omega]
  generalize wear * max 0 (a.year - b.year) = u
  generalize wear * max 0 (b.year - a.year) = v
  simp only [Int.mul_zero, Int.sub_zero]
  congr 1
  · rw [decide_eq_decide]; omega
  · rw [decide_eq_decide]; omega
set_option maxRecDepth 100000 in
set_option maxHeartbeats 3200000 in
theorem rclash_any (a b : Th) (wear : Int) (w : World) (ha : okTh a = true) (hb : okTh b = true) (hw : 0 ≤ wear ∧ wear ≤ 1000) :
    Calls Tryz.prog 169 #[.agg #[.int .i64 a.num, .int .i64 a.year, .int .i64 a.lo, .int .i64 a.hi], .agg #[.int .i64 b.num, .int .i64 b.year, .int .i64 b.lo, .int .i64 b.hi], .int .i64 wear] w fun e w' => e = .returned (.bool (clB wear a b)) ∧ Below w.heap.size w w' := by
  have ya := (okTh_iff.1 ha).1
  have yb := (okTh_iff.1 hb).1
  have K1 := fun W => rlo_any a wear b.year W ha hw yb
  have K2 := fun W => rlo_any b wear a.year W hb hw ya
  rw [← rclB_eq]
  unfold rclB
  obtain ⟨p, hp⟩ : ∃ p, lowT wear a b.year = p := ⟨_, rfl⟩
  obtain ⟨q, hq⟩ : ∃ p, lowT wear b a.year = p := ⟨_, rfl⟩
  simp only [hp] at K1
  simp only [hq] at K2
  rw [hp, hq]
  obtain ⟨F, hF⟩ : ∃ F, (decide (b.hi < p) || decide (a.hi < q)) = F := ⟨_, rfl⟩
  rw [hF]
  have HF := Lib.hid hF
  clear ha hb hw ya yb hp hq hF
  obtain ⟨a0, a1, a2, a3⟩ := a
  obtain ⟨b0, b1, b2, b3⟩ := b
  simp only at *
  go_enter Tryz.func169, Tryz.ntmps169
  go_upto_region 1 with fail
  obtain ⟨W0, hW0⟩ : ∃ W0, ((w).alloc (.cells #[.int .i64 (a0), .int .i64 (a1), .int .i64 (a2), .int .i64 (a3)] 128)).alloc (.cells #[.int .i64 (b0), .int .i64 (b1), .int .i64 (b2), .int .i64 (b3)] 128) = W0 := ⟨_, rfl⟩
  have S0 : St w W0 [(w.heap.size + 1, 0, .int .i64 (b0)), (w.heap.size + 1, 1, .int .i64 (b1)), (w.heap.size + 1, 2, .int .i64 (b2)), (w.heap.size + 1, 3, .int .i64 (b3)), (w.heap.size, 0, .int .i64 (a0)), (w.heap.size, 1, .int .i64 (a1)), (w.heap.size, 2, .int .i64 (a2)), (w.heap.size, 3, .int .i64 (a3))] := by rw [← hW0]; exact (((St.nil w)).box #[.int .i64 (a0), .int .i64 (a1), .int .i64 (a2), .int .i64 (a3)] 128 (w.heap.size) (by simp)).box #[.int .i64 (b0), .int .i64 (b1), .int .i64 (b2), .int .i64 (b3)] 128 (w.heap.size + 1) (by simp)
  rw [hW0]
  clear hW0
  obtain ⟨C, hC0, HC, LC, BC, hne⟩ := cls S0
  haveI := hne
  obtain ⟨c0, rfl⟩ : ∃ n : Wd C, W0 = n.w := ⟨⟨_, hC0⟩, rfl⟩
  have fC0 : ∀ n : Wd C, n.w.cell? ⟨w.heap.size + 1, 0, none⟩ = some (.int .i64 (b0)) := fun n => (LC.out n).1.2.1
  have fC1 : ∀ n : Wd C, n.w.cell? ⟨w.heap.size + 1, 1, none⟩ = some (.int .i64 (b1)) := fun n => (LC.out n).2.1.2.1
  have fC2 : ∀ n : Wd C, n.w.cell? ⟨w.heap.size + 1, 2, none⟩ = some (.int .i64 (b2)) := fun n => (LC.out n).2.2.1.2.1
  have fC3 : ∀ n : Wd C, n.w.cell? ⟨w.heap.size + 1, 3, none⟩ = some (.int .i64 (b3)) := fun n => (LC.out n).2.2.2.1.2.1
  have fC4 : ∀ n : Wd C, n.w.cell? ⟨w.heap.size, 0, none⟩ = some (.int .i64 (a0)) := fun n => (LC.out n).2.2.2.2.1.2.1
  have fC5 : ∀ n : Wd C, n.w.cell? ⟨w.heap.size, 1, none⟩ = some (.int .i64 (a1)) := fun n => (LC.out n).2.2.2.2.2.1.2.1
  have fC6 : ∀ n : Wd C, n.w.cell? ⟨w.heap.size, 2, none⟩ = some (.int .i64 (a2)) := fun n => (LC.out n).2.2.2.2.2.2.1.2.1
  have fC7 : ∀ n : Wd C, n.w.cell? ⟨w.heap.size, 3, none⟩ = some (.int .i64 (a3)) := fun n => (LC.out n).2.2.2.2.2.2.2.1.2.1
  clear S0 hC0
  have D1 := cin HC fun W => Calls.be (K1 W)
  have D2 := cin HC fun W => Calls.be (K2 W)
  clear K1 K2
  by_cases h1 : b3 < p
  · have h1' : decide (b3 < p) = true := by simpa using h1
    obtain rfl : true = F := by rw [← HF.out]; simp [h1]
    clear h1
    refine wp_region_in C (HC.out _ _ (Wd.h _) (below_dr _)) (by kernel_rfl) (by kernel_rfl) ?_
    repeat (go_big_quiet_step (first | with_reducible exact (D1 _).out))
    refine wpQuiet_nil ?_
    intro wx hwx
    obtain ⟨n, rfl⟩ : ∃ n : Wd C, wx = n.w := ⟨⟨wx, hwx⟩, rfl⟩
    clear hwx
    go_wp2_with fail
    go_ret
    exact ⟨rfl, BC.out _⟩
  · have h1' : decide (b3 < p) = false := by simpa using h1
    by_cases h2 : a3 < q
    · have h2' : decide (a3 < q) = true := by simpa using h2
      obtain rfl : true = F := by rw [← HF.out]; simp [h2]
      clear h1 h2
      refine wp_region_in C (HC.out _ _ (Wd.h _) (below_dr _)) (by kernel_rfl) (by kernel_rfl) ?_
      repeat (go_big_quiet_step (first | with_reducible exact (D1 _).out | with_reducible exact (D2 _).out))
      refine wpQuiet_nil ?_
      intro wx hwx
      obtain ⟨n, rfl⟩ : ∃ n : Wd C, wx = n.w := ⟨⟨wx, hwx⟩, rfl⟩
      clear hwx
      go_wp2_with fail
      go_ret
      exact ⟨rfl, BC.out _⟩
    · have h2' : decide (a3 < q) = false := by simpa using h2
      obtain rfl : false = F := by rw [← HF.out, h1', h2']; rfl
      clear h1 h2
      refine wp_region_in C (HC.out _ _ (Wd.h _) (below_dr _)) (by kernel_rfl) (by kernel_rfl) ?_
      repeat (go_big_quiet_step (first | with_reducible exact (D1 _).out | with_reducible exact (D2 _).out))
      refine wpQuiet_nil ?_
      intro wx hwx
      obtain ⟨n, rfl⟩ : ∃ n : Wd C, wx = n.w := ⟨⟨wx, hwx⟩, rfl⟩
      clear hwx
      go_wp2_with fail
      go_ret
      exact ⟨rfl, BC.out _⟩
end Go.Proofs.YtcejmfgbfdhflaaGreat
namespace Go.Proofs.YtcejmfgbfdhflaaGreat
open Go.RowKit Go.Shelf Go.BigFrame Go.Sort
attribute [local go_sem] World.cell?_alloc_some
/-- Two things of a list contradict each other. -/
def AnyCl (wear : Int) (l : List Th) : Prop := ∃ i k, k < i ∧ i < l.length ∧ clB wear (l.getD i dTh) (l.getD k dTh) = true
set_option maxRecDepth 100000 in
set_option maxHeartbeats 6400000 in
theorem rclashes_any (q : Option Addr) (cap : Nat) (l : List Th) (wear : Int) (w : World) (hl : l.length ≤ 1000000) (hok : ∀ t ∈ l, okTh t = true) (hw : 0 ≤ wear ∧ wear ≤ 1000) (h : T4At w q l) :
    Calls Tryz.prog 119 #[.slice q l.length cap, .int .i64 wear] w fun e w' => (∃ F, e = .returned (.bool F) ∧ (F = true ↔ AnyCl wear l)) ∧ Below w.heap.size w w' := by
  have H := Lib.hid h
  have HOK := Lib.hid hok
  clear h hok
  go_enter Tryz.func119, Tryz.ntmps119
  go_wp2_with fail
  go_loopw [5] (fun i wr => ∃ (k : Nat), Below w.heap.size w wr ∧ i = .int .i64 (k : Int) ∧ k ≤ l.length ∧ ∀ i' k', i' < k → k' < i' → ¬ clB wear (l.getD i' dTh) (l.getD k' dTh) = true) (fun i wr => l.length - (intOf i).toNat)
  case atStart => exact ⟨0, Below.refl _ _, rfl, Nat.zero_le _, fun i' k' h => absurd h (by omega)⟩
  case round =>
    obtain ⟨k, hG, rfl, hk, ha⟩ := hrel
    have HG := Lib.hid hG
    have HA := Lib.hid ha
    clear ha
    by_cases hlt : k < l.length
    · have hlt' : (k : Int) < (l.length : Int) := by omega
      clear hG
      go_upto_region 5 with fail
      go_loopw [6] (fun i wr2 => ∃ (j : Nat), Below wr.heap.size wr wr2 ∧ i = .int .i64 (j : Int) ∧ j ≤ k ∧ ∀ k', k' < j → ¬ clB wear (l.getD k dTh) (l.getD k' dTh) = true) (fun i wr2 => k - (intOf i).toNat)
      case atStart => exact ⟨0, Below.refl _ _, rfl, Nat.zero_le _, fun k' h => absurd h (by omega)⟩
      case round =>
        obtain ⟨j, hB2, rfl, hj, hb⟩ := hrel
        have HB2 := Lib.hid hB2
        have HB := Lib.hid hb
        clear hb
        by_cases hlt2 : j < k
        · have htl := getD_of (l := l) (d := dTh) (i := k) (by omega)
          have hul := getD_of (l := l) (d := dTh) (i := j) (by omega)
          rcases H.out with h0 | ⟨b4, rfl, hb4, hc4⟩
          · rw [h0] at hlt; simp at hlt
          have hB4 : Below w.heap.size w wr := HG.out.trans (hB2.mono HG.out.size)
          obtain ⟨a0, a1, a2, a3⟩ := hc4 k _ htl
          obtain ⟨u0, u1, u2, u3⟩ := hc4 j _ hul
          have ok1 := HOK.out _ (List.mem_of_getElem? htl)
          have ok2 := HOK.out _ (List.mem_of_getElem? hul)
          have HSE : Hid (∀ z, clB wear (l.getD k dTh) (l.getD j dTh) = z → clB wear (l.getD k dTh) (l.getD j dTh) = z) := fun _ h => h
          obtain ⟨t, ht⟩ : ∃ t, l.getD k dTh = t := ⟨_, rfl⟩
          obtain ⟨u, hu⟩ : ∃ t, l.getD j dTh = t := ⟨_, rfl⟩
          rw [ht] at a0 a1 a2 a3 ok1
          rw [hu] at u0 u1 u2 u3 ok2
          have KC := fun W => rclash_any t u wear W ok1 ok2 hw
          obtain ⟨z, hz⟩ : ∃ z, clB wear t u = z := ⟨_, rfl⟩
          simp only [hz] at KC
          have HZ : Hid (clB wear (l.getD k dTh) (l.getD j dTh) = z) := by unfold Hid; rw [ht, hu]; exact hz
          have S0 : St wr wr [] := St.nil wr
          obtain ⟨C, hC0, HC, LC, BC, hne, -⟩ := clsF S0
          haveI := hne
          have fT : ∀ (o : Nat) (v : Value), w.cell? ⟨b4, o, none⟩ = some v → ∀ n : Wd C, n.w.cell? ⟨b4, o, none⟩ = some v := fun o v hv n => ((HG.out.trans ((HB2.out.trans ((BC.out n).mono HB2.out.size)).mono HG.out.size)).cell (p := ⟨b4, o, none⟩) hb4).trans hv
          have fT0 := fT _ _ a0
          have fT1 := fT _ _ a1
          have fT2 := fT _ _ a2
          have fT3 := fT _ _ a3
          have fU0 := fT _ _ u0
          have fU1 := fT _ _ u1
          have fU2 := fT _ _ u2
          have fU3 := fT _ _ u3
          have D1 := cin HC KC
          have hlt3' : (j : Int) < (k : Int) := by omega
          have hlt4' : (j : Int) < (l.length : Int) := by omega
          have HBW : Hid (∀ n : Wd C, Below w.heap.size w n.w) := fun n => HG.out.trans ((HB2.out.trans ((BC.out n).mono HB2.out.size)).mono HG.out.size)
          have HBX : Hid (∀ n : Wd C, Below _ _ n.w) := fun n => HB2.out.trans ((BC.out n).mono HB2.out.size)
          clear hB2 hB4 htl hul hb4 hc4 a0 a1 a2 a3 u0 u1 u2 u3 ok1 ok2 HSE ht hu KC hz S0 fT LC BC
          obtain ⟨c0, hc0⟩ : ∃ n : Wd C, wr = n.w := ⟨⟨_, hC0⟩, rfl⟩
          rw [hc0]
          clear hc0 hC0
          cases z
          · go_upto_region 7 with fail
            refine wp_region_in C (HC.out _ _ (Wd.h _) (below_dr _)) (by kernel_rfl) (by kernel_rfl) ?_
            repeat (go_big_quiet_step (first | with_reducible exact (D1 _).out))
            refine wpQuiet_nil ?_
            intro wx hwx
            obtain ⟨n, rfl⟩ : ∃ n : Wd C, wx = n.w := ⟨⟨wx, hwx⟩, rfl⟩
            clear hwx
            go_wp2_with fail
            go_roundw
            case rel => exact ⟨j + 1, HBX.out n, by simp, hlt2, fun k' h => by
              by_cases e : k' = j
              · subst e; rw [HZ.out]; decide
              · exact HB.out k' (by omega)⟩
            case measure => simp [intOf]; omega
          · go_upto_region 7 with fail
            refine wp_region_in C (HC.out _ _ (Wd.h _) (below_dr _)) (by kernel_rfl) (by kernel_rfl) ?_
            repeat (go_big_quiet_step (first | with_reducible exact (D1 _).out))
            refine wpQuiet_nil ?_
            intro wx hwx
            obtain ⟨n, rfl⟩ : ∃ n : Wd C, wx = n.w := ⟨⟨wx, hwx⟩, rfl⟩
            clear hwx
            go_wp2_with fail
            go_ret
            exact ⟨⟨true, rfl, ⟨fun _ => ⟨k, j, hlt2, hlt, HZ.out⟩, fun _ => rfl⟩⟩, HBW.out n⟩
        · obtain rfl : j = k := by omega
          clear hB2
          go_wp2_with fail
          go_roundw
          case rel => exact ⟨j + 1, HG.out.trans (HB2.out.mono HG.out.size), by simp, hlt, fun i' k' h1 h2 => by
            by_cases e : i' = j
            · subst e; exact HB.out k' h2
            · exact HA.out i' k' (by omega) h2⟩
          case measure => simp [intOf]; omega
    · obtain rfl : k = l.length := by omega
      clear hG
      go_wp2_with fail
      go_ret
      exact ⟨⟨false, rfl, by
        constructor
        · intro h; cases h
        · rintro ⟨i, k, h1, h2, h3⟩; exact absurd h3 (HA.out i k h2 h1)⟩, HG.out⟩
end Go.Proofs.YtcejmfgbfdhflaaGreat
namespace Go.Proofs.YtcejmfgbfdhflaaGreat
open Go.RowKit Go.Shelf Go.BigFrame Go.Sort
attribute [local go_sem] World.cell?_alloc_some
theorem clTo_nil (wear : Int) (l : List Th) : ∀ k, k ≤ l.length → (clTo wear l k = [] ↔ ∀ i j, j < i → i < k → ¬ clB wear (l.getD i dTh) (l.getD j dTh) = true)
  | 0, _ => by simp [clTo]
  | k + 1, h => by
    have ih := clTo_nil wear l k (by omega)
    have hk : l[k]? = some (l.getD k dTh) := getD_of (by omega)
    unfold clTo
    rw [List.append_eq_nil_iff, ih, hk]
    simp only [clIn, List.map_eq_nil_iff, List.filter_eq_nil_iff]
    constructor
    · rintro ⟨h1, h2⟩ i j hji hik
      by_cases e : i = k
      · subst e
        have hj : l[j]? = some (l.getD j dTh) := getD_of (by omega)
        exact h2 _ (List.mem_iff_getElem?.2 ⟨j, by rw [List.getElem?_take_of_lt hji]; exact hj⟩)
      · exact h1 i j hji (by omega)
    · intro h3
      refine ⟨fun i j a b => h3 i j a (by omega), fun b hb => ?_⟩
      obtain ⟨j, hj⟩ := List.mem_iff_getElem?.1 hb
      have hjk : j < k := by have := (List.getElem?_eq_some_iff.1 hj).1; simp at this; omega
      rw [List.getElem?_take_of_lt hjk] at hj
      have := h3 k j hjk (by omega)
      rwa [show l.getD j dTh = b from getD_some hj] at this
theorem clS_nil (s : Spl) : clS s = [] ↔ ¬ AnyCl s.wear s.ths := by
  unfold clS AnyCl
  rw [clTo_nil _ _ _ (Nat.le_refl _)]
  constructor
  · rintro h ⟨i, k, h1, h2, h3⟩
    exact h i k h1 h2 h3
  · intro h i j h1 h2 h3
    exact h ⟨i, j, h1, h2, h3⟩
theorem clB_symm (wear : Int) (a b : Th) : clB wear a b = clB wear b a := by
  unfold clB
  rw [show max b.year a.year = max a.year b.year from by omega, Bool.or_comm]
/-- Contradiction does not depend on the order. -/
theorem anyCl_pair (wear : Int) (l : List Th) : ¬ AnyCl wear l ↔ l.Pairwise fun a b => ¬ clB wear a b = true := by
  rw [List.pairwise_iff_getElem]
  unfold AnyCl
  constructor
  · intro h i j hi hj hij e
    refine h ⟨j, i, hij, hj, ?_⟩
    rw [clB_symm]
    simpa [List.getD, hi, hj] using e
  · rintro h ⟨i, k, h1, h2, h3⟩
    have hk : k < l.length := by omega
    refine h k i hk h2 h1 ?_
    rw [clB_symm]
    simpa [List.getD, hk, h2] using h3
theorem anyCl_perm {wear : Int} {l m : List Th} (h : l.Perm m) : AnyCl wear l ↔ AnyCl wear m := by
  have e : (l.Pairwise fun a b => ¬ clB wear a b = true) ↔ (m.Pairwise fun a b => ¬ clB wear a b = true) :=
    h.pairwise_iff (fun {a b} h => by rw [clB_symm]; exact h)
  have := anyCl_pair wear l
  have := anyCl_pair wear m
  constructor
  · intro h1
    exact Classical.byContradiction fun h2 => by have := (anyCl_pair wear l).2 (e.2 ((anyCl_pair wear m).1 h2)); exact this h1
  · intro h1
    exact Classical.byContradiction fun h2 => by have := (anyCl_pair wear m).2 (e.1 ((anyCl_pair wear l).1 h2)); exact this h1
end Go.Proofs.YtcejmfgbfdhflaaGreat
