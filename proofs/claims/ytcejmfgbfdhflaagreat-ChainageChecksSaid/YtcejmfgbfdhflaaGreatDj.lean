import Derived.Test.YtcejmfgbfdhflaaGreatDi
import Derived.WalkKit
import Derived.LoopTactic
import Derived.WalkSpells
import Derived.WalkLawsBesides
import Derived.Lib.Hide
import Derived.BigQuiet
import Derived.IntWalk
import Derived.Deep.DeepMust
import Derived.WalkSmall
import Derived.StillTailTactics
import Derived.Deep.RegionLaw
import Derived.Deep.RegionHeld3
import Derived.Deep.QuietTactic
namespace Go.Proofs.YtcejmfgbfdhflaaGreat
open Go.RowKit Go.Shelf Go.BigFrame Go.Sort
attribute [local go_sem] World.cell?_alloc_some
set_option maxHeartbeats 400000 in
theorem rin_any (n lo hi : Int) (w : World) : Calls Tryz.prog 72 #[.int .i64 n, .int .i64 lo, .int .i64 hi] w fun e w' => e = .returned (.bool (inB lo hi n)) ∧ w = w' := by
  go_enter Tryz.func72, Tryz.ntmps72
  by_cases h : lo ≤ n
  · have h0 : decide (lo ≤ n) = true := by simpa using h
    go_wp2_with fail
    all_goals (go_ret; exact ⟨ret_bool (by (try simp_all [inB]); try (intros; omega)), rfl⟩)
  · have h0 : decide (lo ≤ n) = false := by simpa using h
    go_wp2_with fail
    all_goals (go_ret; exact ⟨ret_bool (by (try simp_all [inB]); try (intros; omega)), rfl⟩)
set_option maxHeartbeats 400000 in
theorem rlong_any (lo hi : Int) (w : World) : Calls Tryz.prog 143 #[spv lo hi, .int .i64 9000, .int .i64 12000] w fun e w' => e = .returned (.bool (okLong lo hi)) ∧ Gr w w' := by
  go_enter Tryz.func143, Tryz.ntmps143
  go_wp2_with fail
  all_goals (go_ret; exact ⟨ret_bool (by simp_all [okLong, insB]; try omega), Gr.al _ _⟩)
/-- What chainAt gives. -/
def AtI (l : List Ch) (id m : Int) : Prop := ((chF l id).isSome = false ∧ m = -1) ∨ ∃ k : Nat, ∃ h : k < l.length, m = (k : Int) ∧ chF l id = some l[k]
set_option maxRecDepth 100000 in
set_option maxHeartbeats 1600000 in
theorem chainAt_any (x : WA) (id : Int) (w : World) (h : x.At w) :
    Calls Tryz.prog 71 #[x.v, .int .i64 id] w fun e w' => (∃ m : Int, e = .returned (.int .i64 m) ∧ AtI x.cs id m) ∧ Below w.heap.size w w' := by
  have H := Lib.hid h.cs
  have n1 := h.n1
  have k1 := h.k1
  clear h
  obtain ⟨cs, ps, rs, q1, q2, q3, c1, c2, c3⟩ := x
  simp only [WA.v] at *
  go_enter Tryz.func71, Tryz.ntmps71
  go_wp2_with fail
  obtain ⟨W0, hW0⟩ : ∃ W0, (w).alloc (.cells #[.slice q1 cs.length c1, .slice q2 ps.length c2, .slice q3 rs.length c3] 26) = W0 := ⟨_, rfl⟩
  have S0 : St w W0 [(w.heap.size, 0, .slice q1 cs.length c1), (w.heap.size, 1, .slice q2 ps.length c2), (w.heap.size, 2, .slice q3 rs.length c3)] := by rw [← hW0]; exact ((St.nil w)).box #[.slice q1 cs.length c1, .slice q2 ps.length c2, .slice q3 rs.length c3] 26 (w.heap.size) (by simp)
  rw [hW0]
  clear hW0
  obtain ⟨C, hC0, HC, LC, BC, hne⟩ := cls S0
  haveI := hne
  obtain ⟨c0, rfl⟩ : ∃ n : Wd C, W0 = n.w := ⟨⟨_, hC0⟩, rfl⟩
  have fC0 : ∀ n : Wd C, n.w.cell? ⟨w.heap.size, 0, none⟩ = some (.slice q1 cs.length c1) := fun n => (LC.out n).1.2.1
  have fC1 : ∀ n : Wd C, n.w.cell? ⟨w.heap.size, 1, none⟩ = some (.slice q2 ps.length c2) := fun n => (LC.out n).2.1.2.1
  have fC2 : ∀ n : Wd C, n.w.cell? ⟨w.heap.size, 2, none⟩ = some (.slice q3 rs.length c3) := fun n => (LC.out n).2.2.1.2.1
  clear S0 hC0
  go_loopw [5] (fun i wr => wr = c0.w ∧ ∃ (k : Nat), i = .int .i64 (k : Int) ∧ k ≤ cs.length ∧ ∀ j, (hj : j < cs.length) → j < k → cs[j].id ≠ id) (fun i wr => cs.length - (intOf i).toNat)
  case atStart => exact ⟨rfl, 0, rfl, Nat.zero_le _, fun j _ h => absurd h (by omega)⟩
  case round =>
    obtain ⟨rfl, k, rfl, hk, ha⟩ := hrel
    have HA := Lib.hid ha
    clear ha
    by_cases hlt : k < cs.length
    · rcases H.out with h0 | ⟨b, o, rfl, hb, hc⟩
      · exact absurd hlt (by simp [show cs = [] from h0])
      · obtain ⟨d1, -⟩ := hc k cs[k] (List.getElem?_eq_getElem hlt)
        have b1 := ((BC.out c0).cell (p := ⟨b, o + k * 5, none⟩) hb).trans d1
        have HX := Lib.hid hlt
        obtain ⟨cc, hc0⟩ : ∃ c, cs[k] = c := ⟨_, rfl⟩
        replace b1 : c0.w.cell? ⟨b, o + k * 5, none⟩ = some (.int .i64 cc.id) := by rw [← hc0]; exact b1
        have hcc : cs[k].id = cc.id := by rw [hc0]
        obtain ⟨c, hcd⟩ : ∃ c, cc.id = c := ⟨_, rfl⟩
        rw [hcd] at hcc b1
        have HC2 := Lib.hid hcc
        have hlt' : (k : Int) < (cs.length : Int) := by omega
        clear d1 hc hcc hb hc0 hcd
        by_cases he : c = id
        · subst he
          go_wp2_with fail
          go_ret
          exact ⟨⟨k, rfl, .inr ⟨k, hlt, rfl, chF_hit hlt (fun j hj hjk => HA.out j hj hjk) HC2.out⟩⟩, BC.out _⟩
        · have he' : (c == id) = false := by simpa using he
          have HE := Lib.hid he
          clear he
          go_wp2_with fail
          go_roundw
          case rel => exact ⟨by first | rfl | trivial, k + 1, by simp, hlt, fun j hj hjk => by
            by_cases e : j = k
            · subst e; exact fun e2 => HE.out (HC2.out.symm.trans e2)
            · exact HA.out j hj (by omega)⟩
          case measure => simp [intOf]; omega
    · obtain rfl : k = cs.length := by omega
      go_wp2_with fail
      go_ret
      exact ⟨⟨-1, rfl, .inl ⟨by
        unfold chF
        rw [Option.isSome_eq_false_iff, Option.isNone_iff_eq_none, List.find?_eq_none]
        intro c hc e
        obtain ⟨j, hj, rfl⟩ := List.getElem_of_mem hc
        exact HA.out j hj hj (by simpa using e), rfl⟩⟩, BC.out _⟩
set_option maxRecDepth 100000 in
set_option maxHeartbeats 6400000 in
theorem rchains_any (q : Option Addr) (cap : Nat) (l : List Ch) (w : World) (hl : l.length ≤ 1000) (h : ChsAt w q l) :
    Calls Tryz.prog 81 #[.slice q l.length cap] w fun e w' => e = .returned (.int .i64 (chkCs [] l)) ∧ Below w.heap.size w w' := by
  have H := Lib.hid h
  obtain ⟨E, hE⟩ : ∃ E, chkCs [] l = E := ⟨_, rfl⟩
  have HE := Lib.hid hE
  rw [hE]
  clear h hE
  go_enter Tryz.func81, Tryz.ntmps81
  go_wp2_with fail
  go_loopw [3] (fun i wr => ∃ (k : Nat), Below w.heap.size w wr ∧ i = .int .i64 (k : Int) ∧ k ≤ l.length ∧ Hid (chkCs (l.take k) (l.drop k) = E)) (fun i wr => l.length - (intOf i).toNat)
  case atStart => exact ⟨0, Below.refl _ _, rfl, Nat.zero_le _, HE⟩
  case round =>
    obtain ⟨k, hG, rfl, hk, HI⟩ := hrel
    have HG := Lib.hid hG
    by_cases hlt : k < l.length
    · have HI2 : Hid (_ = E) := (chkCs_step l k hlt).symm.trans HI.out
      clear HI
      rcases H.out with h0 | ⟨b, o, rfl, hb, hc⟩
      · exact absurd hlt (by simp [h0])
      · obtain ⟨c1, c2, c3, c4, c5⟩ := hc k l[k] (List.getElem?_eq_getElem hlt)
        have b1 := (hG.cell (p := ⟨b, o + k * 5, none⟩) hb).trans c1
        have b2 := (hG.cell (p := ⟨b, o + k * 5 + 1, none⟩) hb).trans c2
        have b3 := (hG.cell (p := ⟨b, o + k * 5 + 2, none⟩) hb).trans c3
        have b4 := (hG.cell (p := ⟨b, o + k * 5 + 3, none⟩) hb).trans c4
        have b5 := (hG.cell (p := ⟨b, o + k * 5 + 4, none⟩) hb).trans c5
        obtain ⟨c, hcc⟩ : ∃ c, l[k] = c := ⟨_, rfl⟩
        rw [hcc] at b1 b2 b3 b4 b5 HI2
        have hlt' : (k : Int) < (l.length : Int) := by omega
        have C1 := fun W => Lib.hid (rin_any c.id 1 1099511627776 W)
        have C2 := fun W => Lib.hid (rin_any c.year 0 4000 W)
        have C3 := fun W => Lib.hid (rlong_any c.lo c.hi W)
        have C4 := fun W => Lib.hid (rin_any c.wear 0 1000 W)
        obtain ⟨x1, h1⟩ : ∃ b, inB 1 1099511627776 c.id = b := ⟨_, rfl⟩
        obtain ⟨x2, h2⟩ : ∃ b, inB 0 4000 c.year = b := ⟨_, rfl⟩
        obtain ⟨x3, h3⟩ : ∃ b, okLong c.lo c.hi = b := ⟨_, rfl⟩
        obtain ⟨x4, h4⟩ : ∃ b, inB 0 1000 c.wear = b := ⟨_, rfl⟩
        simp only [h1] at C1
        simp only [h2] at C2
        simp only [h3] at C3
        simp only [h4] at C4
        have ho : okCh c = (x1 && (x2 && (x3 && x4))) := by rw [okCh, okId, h1, h2, h3, h4]
        rw [ho] at HI2
        clear c1 c2 c3 c4 c5 hcc h1 h2 h3 h4 ho
        cases x1
        · skip
          obtain rfl : 1 = E := by have := HI2.out; simpa using this
          clear hG
          go_wp2_with (first | (go_at_call 72; with_reducible refine (C1 _).out.mono ?_; rintro e w' ⟨rfl, rfl⟩) | (go_at_call 72; with_reducible refine (C2 _).out.mono ?_; rintro e w' ⟨rfl, rfl⟩) | (go_at_call 143; refine (C3 _).out.mono ?_; rintro e w3 ⟨rfl, hg⟩; have f4 := (hg.below.cell (p := ⟨wr.heap.size, 4, none⟩) (by simp)).trans (new_at wr #[.int .i64 c.id, .int .i64 c.year, .int .i64 c.lo, .int .i64 c.hi, .int .i64 c.wear] 90 4 _ rfl); have f0 := (hg.below.cell (p := ⟨wr.heap.size, 0, none⟩) (by simp)).trans (new_at wr #[.int .i64 c.id, .int .i64 c.year, .int .i64 c.lo, .int .i64 c.hi, .int .i64 c.wear] 90 0 _ rfl); have HB3 : Hid (Below wr.heap.size wr w3) := (below_al _ _).trans (hg.below.mono (by simp)); have hsz : wr.heap.size < w3.heap.size := Nat.lt_of_lt_of_le (by simp) hg.below.size; clear hg) | (go_at_call 72; with_reducible refine (C4 _).out.mono ?_; rintro e w' ⟨rfl, rfl⟩))
          go_ret
          exact ⟨rfl, HG.out.trans ((below_al _ _).mono HG.out.size)⟩
        cases x2
        · skip
          obtain rfl : 1 = E := by have := HI2.out; simpa using this
          clear hG
          go_wp2_with (first | (go_at_call 72; with_reducible refine (C1 _).out.mono ?_; rintro e w' ⟨rfl, rfl⟩) | (go_at_call 72; with_reducible refine (C2 _).out.mono ?_; rintro e w' ⟨rfl, rfl⟩) | (go_at_call 143; refine (C3 _).out.mono ?_; rintro e w3 ⟨rfl, hg⟩; have f4 := (hg.below.cell (p := ⟨wr.heap.size, 4, none⟩) (by simp)).trans (new_at wr #[.int .i64 c.id, .int .i64 c.year, .int .i64 c.lo, .int .i64 c.hi, .int .i64 c.wear] 90 4 _ rfl); have f0 := (hg.below.cell (p := ⟨wr.heap.size, 0, none⟩) (by simp)).trans (new_at wr #[.int .i64 c.id, .int .i64 c.year, .int .i64 c.lo, .int .i64 c.hi, .int .i64 c.wear] 90 0 _ rfl); have HB3 : Hid (Below wr.heap.size wr w3) := (below_al _ _).trans (hg.below.mono (by simp)); have hsz : wr.heap.size < w3.heap.size := Nat.lt_of_lt_of_le (by simp) hg.below.size; clear hg) | (go_at_call 72; with_reducible refine (C4 _).out.mono ?_; rintro e w' ⟨rfl, rfl⟩))
          go_ret
          exact ⟨rfl, HG.out.trans ((below_al _ _).mono HG.out.size)⟩
        cases x3
        · skip
          obtain rfl : 1 = E := by have := HI2.out; simpa using this
          clear hG
          go_wp2_with (first | (go_at_call 72; with_reducible refine (C1 _).out.mono ?_; rintro e w' ⟨rfl, rfl⟩) | (go_at_call 72; with_reducible refine (C2 _).out.mono ?_; rintro e w' ⟨rfl, rfl⟩) | (go_at_call 143; refine (C3 _).out.mono ?_; rintro e w3 ⟨rfl, hg⟩; have f4 := (hg.below.cell (p := ⟨wr.heap.size, 4, none⟩) (by simp)).trans (new_at wr #[.int .i64 c.id, .int .i64 c.year, .int .i64 c.lo, .int .i64 c.hi, .int .i64 c.wear] 90 4 _ rfl); have f0 := (hg.below.cell (p := ⟨wr.heap.size, 0, none⟩) (by simp)).trans (new_at wr #[.int .i64 c.id, .int .i64 c.year, .int .i64 c.lo, .int .i64 c.hi, .int .i64 c.wear] 90 0 _ rfl); have HB3 : Hid (Below wr.heap.size wr w3) := (below_al _ _).trans (hg.below.mono (by simp)); have hsz : wr.heap.size < w3.heap.size := Nat.lt_of_lt_of_le (by simp) hg.below.size; clear hg) | (go_at_call 72; with_reducible refine (C4 _).out.mono ?_; rintro e w' ⟨rfl, rfl⟩))
          go_ret
          exact ⟨rfl, HG.out.trans (HB3.out.mono HG.out.size)⟩
        cases x4
        · skip
          obtain rfl : 1 = E := by have := HI2.out; simpa using this
          clear hG
          go_wp2_with (first | (go_at_call 72; with_reducible refine (C1 _).out.mono ?_; rintro e w' ⟨rfl, rfl⟩) | (go_at_call 72; with_reducible refine (C2 _).out.mono ?_; rintro e w' ⟨rfl, rfl⟩) | (go_at_call 143; refine (C3 _).out.mono ?_; rintro e w3 ⟨rfl, hg⟩; have f4 := (hg.below.cell (p := ⟨wr.heap.size, 4, none⟩) (by simp)).trans (new_at wr #[.int .i64 c.id, .int .i64 c.year, .int .i64 c.lo, .int .i64 c.hi, .int .i64 c.wear] 90 4 _ rfl); have f0 := (hg.below.cell (p := ⟨wr.heap.size, 0, none⟩) (by simp)).trans (new_at wr #[.int .i64 c.id, .int .i64 c.year, .int .i64 c.lo, .int .i64 c.hi, .int .i64 c.wear] 90 0 _ rfl); have HB3 : Hid (Below wr.heap.size wr w3) := (below_al _ _).trans (hg.below.mono (by simp)); have hsz : wr.heap.size < w3.heap.size := Nat.lt_of_lt_of_le (by simp) hg.below.size; clear hg) | (go_at_call 72; with_reducible refine (C4 _).out.mono ?_; rintro e w' ⟨rfl, rfl⟩))
          go_ret
          exact ⟨rfl, HG.out.trans (HB3.out.mono HG.out.size)⟩
        · obtain ⟨z, hz⟩ : ∃ z, (chF (l.take k) c.id).isSome = z := ⟨_, rfl⟩
          rw [hz] at HI2
          have HZ := Lib.hid hz
          have hbn : b ≠ wr.heap.size := by have := hG.size; omega
          have HHC := Lib.hid hc
          have HHB := Lib.hid hb
          clear hz hG hc hb
          go_upto_region 8 with (first | (go_at_call 72; with_reducible refine (C1 _).out.mono ?_; rintro e w' ⟨rfl, rfl⟩) | (go_at_call 72; with_reducible refine (C2 _).out.mono ?_; rintro e w' ⟨rfl, rfl⟩) | (go_at_call 143; refine (C3 _).out.mono ?_; rintro e w3 ⟨rfl, hg⟩; have f4 := (hg.below.cell (p := ⟨wr.heap.size, 4, none⟩) (by simp)).trans (new_at wr #[.int .i64 c.id, .int .i64 c.year, .int .i64 c.lo, .int .i64 c.hi, .int .i64 c.wear] 90 4 _ rfl); have f0 := (hg.below.cell (p := ⟨wr.heap.size, 0, none⟩) (by simp)).trans (new_at wr #[.int .i64 c.id, .int .i64 c.year, .int .i64 c.lo, .int .i64 c.hi, .int .i64 c.wear] 90 0 _ rfl); have HB3 : Hid (Below wr.heap.size wr w3) := (below_al _ _).trans (hg.below.mono (by simp)); have hsz : wr.heap.size < w3.heap.size := Nat.lt_of_lt_of_le (by simp) hg.below.size; clear hg) | (go_at_call 72; with_reducible refine (C4 _).out.mono ?_; rintro e w' ⟨rfl, rfl⟩))
          have HF0 := Lib.hid f0
          clear f0 f4 b1 b2 b3 b4 b5
          go_loopw [5] (fun i wr2 => ∃ (j : Nat), Below w3.heap.size w3 wr2 ∧ i = .int .i64 (j : Int) ∧ j ≤ k ∧ ∀ j', (hj : j' < l.length) → j' < j → l[j'].id ≠ c.id) (fun i wr2 => k - (intOf i).toNat)
          case atStart => exact ⟨0, Below.refl _ _, rfl, Nat.zero_le _, fun j _ h => absurd h (by omega)⟩
          case round =>
            obtain ⟨j, hB2, rfl, hj, ha⟩ := hrel
            have HA := Lib.hid ha
            have HB2 := Lib.hid hB2
            clear ha
            by_cases hlt2 : j < k
            · have hjl : j < l.length := by omega
              have d1 := (HHC.out j l[j] (List.getElem?_eq_getElem hjl)).1
              have hB4 : Below w.heap.size w wr := (HG.out.trans (HB3.out.mono HG.out.size)).trans (hB2.mono (Nat.le_trans HG.out.size HB3.out.size))
              have b1 := (hB4.cell (p := ⟨b, o + j * 5, none⟩) HHB.out).trans d1
              have g0 := (hB2.cell hsz).trans HF0.out
              obtain ⟨cc, hcc⟩ : ∃ c, l[j].id = c := ⟨_, rfl⟩
              rw [hcc] at b1
              have HCC := Lib.hid hcc
              have hlt2' : (j : Int) < (k : Int) := by omega
              have hjl' : (j : Int) < (l.length : Int) := by omega
              clear d1 hcc
              by_cases he : cc = c.id
              · subst he
                cases z
                · exact absurd HCC.out (by
                    have := HZ.out
                    unfold chF at this
                    rw [Option.isSome_eq_false_iff, Option.isNone_iff_eq_none, List.find?_eq_none] at this
                    have h5 := this l[j] (List.mem_iff_getElem?.2 ⟨j, by rw [List.getElem?_take_of_lt hlt2]; exact List.getElem?_eq_getElem hjl⟩)
                    simpa using h5)
                · obtain rfl : 6 = E := by have := HI2.out; simpa using this
                  clear hB2 hB4
                  go_upto_region 10 with fail
                  go_quiet (fail)
                  go_wp2_with fail
                  go_ret
                  exact ⟨rfl, (HG.out.trans (HB3.out.mono HG.out.size)).trans ((HB2.out.trans ((show Gr wr (wr.drewN nq) from ⟨nq, #[], by rw [grow_empty]⟩).below.mono HB2.out.size)).mono (Nat.le_trans HG.out.size HB3.out.size))⟩
              · have he' : (cc == c.id) = false := by simpa using he
                have HE2 := Lib.hid he
                clear he
                clear hB2 hB4
                go_upto_region 10 with fail
                go_quiet (fail)
                go_wp2_with fail
                go_roundw
                case rel => exact ⟨j + 1, HB2.out.trans ((show Gr wr (wr.drewN nq) from ⟨nq, #[], by rw [grow_empty]⟩).below.mono HB2.out.size), by simp, hlt2, fun j' hj' hjk => by
                  by_cases e : j' = j
                  · subst e; exact fun e2 => HE2.out (HCC.out.symm.trans e2)
                  · exact HA.out j' hj' (by omega)⟩
                case measure => simp [intOf]; omega
            · obtain rfl : j = k := by omega
              obtain rfl : z = false := by
                cases z
                · rfl
                · exfalso
                  have := HZ.out
                  unfold chF at this
                  rw [List.find?_isSome] at this
                  obtain ⟨c', hm, he⟩ := this
                  obtain ⟨j', hj'⟩ := List.mem_iff_getElem?.1 hm
                  have hjk : j' < j := by
                    have := (List.getElem?_eq_some_iff.1 hj').1
                    simp at this; omega
                  rw [List.getElem?_take_of_lt hjk] at hj'
                  obtain ⟨hl', hq⟩ := List.getElem?_eq_some_iff.1 hj'
                  exact HA.out j' hl' hjk (by rw [hq]; simpa using he)
              have HI3 : Hid (chkCs (l.take (j + 1)) (l.drop (j + 1)) = E) := by unfold Hid; have := HI2.out; simpa using this
              clear hB2 HI2
              go_wp2_with fail
              go_roundw
              case rel => exact ⟨j + 1, (HG.out.trans (HB3.out.mono HG.out.size)).trans (HB2.out.mono (Nat.le_trans HG.out.size HB3.out.size)), by simp, hlt, HI3⟩
              case measure => simp [intOf]; omega
    · obtain rfl : k = l.length := by omega
      obtain rfl : 0 = E := by have := HI.out; rwa [List.drop_length] at this
      clear hG
      go_wp2_with fail
      go_ret
      exact ⟨rfl, HG.out⟩
end Go.Proofs.YtcejmfgbfdhflaaGreat
