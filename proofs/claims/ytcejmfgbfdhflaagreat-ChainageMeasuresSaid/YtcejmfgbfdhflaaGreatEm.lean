import Derived.Test.YtcejmfgbfdhflaaGreatEl
import Derived.Test.YtcejmfgbfdhflaaGreatEb
import Derived.Test.YtcejmfgbfdhflaaGreatEn
import Derived.WalkKit
import Derived.LoopTactic
import Derived.WalkSpells
import Derived.WalkLawsBesides
import Derived.Lib.Hide
import Derived.BigQuiet
import Derived.IntWalk
import Derived.Deep.DeepMust
import Derived.WalkSmall
import Derived.StillTailTactics
import Derived.Deep.RegionLaw
import Derived.Deep.RegionHeld3
import Derived.Deep.QuietTactic
namespace Go.Proofs.YtcejmfgbfdhflaaGreat
open Go.RowKit Go.BigFrame Go.Sort
attribute [local go_sem] World.cell?_alloc_some
set_option maxRecDepth 100000 in
set_option maxHeartbeats 6400000 in
theorem rTotal_any (x : WA) (q : Option Addr) (cap : Nat) (l : List Ms) (w : World) (h : x.At w) (hl : l.length ≤ 140737488355327) (hm : MssAt w q l) :
    Calls Tryz.prog 52 #[x.v, .slice q l.length cap] w fun e w' => e = .returned (.tuple #[spv (ttLo x l) (ttHi x l), .int .i64 (ttE x l)]) ∧ Below w.heap.size w w' := by
  have K1 := fun W (hb : Below w.heap.size w W) => rCheck_any x W (h.keep hb)
  have K20 := fun m W (hb : Below w.heap.size w W) => rDistance_any x m W (h.keep hb)
  have H := Lib.hid hm
  obtain ⟨A, hA⟩ : ∃ A, ttLo x l = A := ⟨_, rfl⟩
  obtain ⟨B1, hB1⟩ : ∃ B, ttHi x l = B := ⟨_, rfl⟩
  obtain ⟨E, hE⟩ : ∃ E, ttE x l = E := ⟨_, rfl⟩
  rw [hA, hB1, hE]
  obtain ⟨k, hk⟩ : ∃ k, chk x = k := ⟨_, rfl⟩
  have HE1 : Hid (k ≠ 0 → E = k ∧ A = 0 ∧ B1 = 0) := fun e => by
    have e1 : ttE x l = k := by unfold ttE; rw [hk, if_pos e]
    exact ⟨by rw [← hE, e1], by rw [← hA, ttLo, e1, if_neg e], by rw [← hB1, ttHi, e1, if_neg e]⟩
  have HE2 : Hid (k = 0 → 100 < l.length → E = 2 ∧ A = 0 ∧ B1 = 0) := fun e e' => by
    have e1 : ttE x l = 2 := by unfold ttE; rw [hk, if_neg (by simpa using e), if_pos e']
    exact ⟨by rw [← hE, e1], by rw [← hA, ttLo, e1, if_neg (by decide)], by rw [← hB1, ttHi, e1, if_neg (by decide)]⟩
  have HE30 : Hid (k = 0 → l.length ≤ 100 → E = erF x l ∧ (erF x l = 0 → A = smLo x l ∧ B1 = smHi x l) ∧ (erF x l ≠ 0 → A = 0 ∧ B1 = 0)) := fun e e' => by
    have e1 : ttE x l = erF x l := by unfold ttE; rw [hk, if_neg (by simpa using e), if_neg (by omega)]
    refine ⟨by rw [← hE, e1], fun z => ⟨by rw [← hA, ttLo, e1, if_pos z], by rw [← hB1, ttHi, e1, if_pos z]⟩, fun z => ⟨by rw [← hA, ttLo, e1, if_neg z], by rw [← hB1, ttHi, e1, if_neg z]⟩⟩
  obtain ⟨X, hX⟩ : ∃ X, x = X := ⟨_, rfl⟩
  have HE3 : Hid (k = 0 → l.length ≤ 100 → E = erF X l ∧ (erF X l = 0 → A = smLo X l ∧ B1 = smHi X l) ∧ (erF X l ≠ 0 → A = 0 ∧ B1 = 0)) := by rw [← hX]; exact HE30
  have K2 : ∀ (m : Ms) W, Below w.heap.size w W → Calls Tryz.prog 50 #[x.v, m.v] W fun e w' => e = .returned (.tuple #[spv (dsLo X m) (dsHi X m), .int .i64 (dsE X m)]) ∧ Below W.heap.size W w' := by rw [← hX]; exact K20
  simp only [hk] at K1
  clear h hm hA hB1 hE hk hX HE30 K20
  obtain ⟨cs, ps, rs, q1, q2, q3, c1, c2, c3⟩ := x
  simp only [WA.v, Ms.v] at *
  go_enter Tryz.func52, Tryz.ntmps52
  go_upto_region 1 with fail
  obtain ⟨W0, hW0⟩ : ∃ W0, ((w).alloc (.cells #[.slice q1 cs.length c1, .slice q2 ps.length c2, .slice q3 rs.length c3] 26)).alloc (.cells #[.int .i64 0, .int .i64 0] 30) = W0 := ⟨_, rfl⟩
  have S0 : St w W0 [(w.heap.size + 1, 0, .int .i64 0), (w.heap.size + 1, 1, .int .i64 0), (w.heap.size, 0, .slice q1 cs.length c1), (w.heap.size, 1, .slice q2 ps.length c2), (w.heap.size, 2, .slice q3 rs.length c3)] := by rw [← hW0]; exact (((St.nil w)).box #[.slice q1 cs.length c1, .slice q2 ps.length c2, .slice q3 rs.length c3] 26 (w.heap.size) (by simp)).box #[.int .i64 0, .int .i64 0] 30 (w.heap.size + 1) (by simp)
  rw [hW0]
  clear hW0
  obtain ⟨C, hC0, HC, LC, BC, hne⟩ := cls S0
  haveI := hne
  obtain ⟨c0, rfl⟩ : ∃ n : Wd C, W0 = n.w := ⟨⟨_, hC0⟩, rfl⟩
  have fC0 : ∀ n : Wd C, n.w.cell? ⟨w.heap.size + 1, 0, none⟩ = some (.int .i64 0) := fun n => (LC.out n).1.2.1
  have zC0 : ∀ n : Wd C, n.w.frozen? ⟨w.heap.size + 1, 0, none⟩ = false := fun n => (LC.out n).1.2.2
  have fC1 : ∀ n : Wd C, n.w.cell? ⟨w.heap.size + 1, 1, none⟩ = some (.int .i64 0) := fun n => (LC.out n).2.1.2.1
  have zC1 : ∀ n : Wd C, n.w.frozen? ⟨w.heap.size + 1, 1, none⟩ = false := fun n => (LC.out n).2.1.2.2
  have fC2 : ∀ n : Wd C, n.w.cell? ⟨w.heap.size, 0, none⟩ = some (.slice q1 cs.length c1) := fun n => (LC.out n).2.2.1.2.1
  have zC2 : ∀ n : Wd C, n.w.frozen? ⟨w.heap.size, 0, none⟩ = false := fun n => (LC.out n).2.2.1.2.2
  have fC3 : ∀ n : Wd C, n.w.cell? ⟨w.heap.size, 1, none⟩ = some (.slice q2 ps.length c2) := fun n => (LC.out n).2.2.2.1.2.1
  have zC3 : ∀ n : Wd C, n.w.frozen? ⟨w.heap.size, 1, none⟩ = false := fun n => (LC.out n).2.2.2.1.2.2
  have fC4 : ∀ n : Wd C, n.w.cell? ⟨w.heap.size, 2, none⟩ = some (.slice q3 rs.length c3) := fun n => (LC.out n).2.2.2.2.1.2.1
  have zC4 : ∀ n : Wd C, n.w.frozen? ⟨w.heap.size, 2, none⟩ = false := fun n => (LC.out n).2.2.2.2.1.2.2
  clear S0 hC0
  have D1 := cinL HC BC K1
  clear K1
  by_cases hk0 : k = 0
  · subst hk0
    by_cases h100 : 100 < l.length
    · obtain ⟨rfl, rfl, rfl⟩ := HE2.out (by first | rfl | trivial) h100
      have h' : (100 : Int) < (l.length : Int) := by omega
      clear h100
      go_wp2_with (first | first | (go_at_call 24; with_reducible refine (D1 _).out.mono ?_; rintro e w' ⟨rfl, n, rfl⟩))
      refine bodyPost_ret (v := .tuple #[spv 0 0, .int .i64 2]) (by simp [results, Tryz.results52, go_sem, fC0, fC1]) rfl ⟨rfl, ?_⟩
      exact set2 (BC.out _) (by omega) _ _
    · have h' : ¬ (100 : Int) < (l.length : Int) := by omega
      obtain ⟨h0E, h3, h4⟩ := HE3.out (by first | rfl | trivial) (by omega)
      have HEE := Lib.hid h0E
      have HZ := Lib.hid h3
      have HN := Lib.hid h4
      clear HE1 HE2 HE3 h3 h4 h0E
      go_upto_region 6 with (first | first | (go_at_call 24; with_reducible refine (D1 _).out.mono ?_; rintro e w' ⟨rfl, n, rfl⟩))
      go_wp2_with fail
      obtain ⟨W0, hW0⟩ : ∃ W0, (n.w).alloc (.cells #[.int .i64 0, .int .i64 0] 30) = W0 := ⟨_, rfl⟩
      have S0 : St w W0 [(n.w.heap.size, 0, .int .i64 0), (n.w.heap.size, 1, .int .i64 0), (w.heap.size + 1, 0, .int .i64 0), (w.heap.size + 1, 1, .int .i64 0), (w.heap.size, 0, .slice q1 cs.length c1), (w.heap.size, 1, .slice q2 ps.length c2), (w.heap.size, 2, .slice q3 rs.length c3)] := by rw [← hW0]; exact ((⟨BC.out n, LC.out n⟩ : St w n.w _)).box #[.int .i64 0, .int .i64 0] 30 (n.w.heap.size) (by simp)
      rw [hW0]
      clear hW0
      obtain ⟨kD, hkk⟩ : ∃ k, n.w.heap.size = k := ⟨_, rfl⟩
      have gkD : w.heap.size ≤ kD := by rw [← hkk]; exact (BC.out n).size
      rw [hkk] at S0 ⊢
      have eD1 : kD ≠ w.heap.size + 1 := by have h := (LC.out n).1.1; omega
      have dD1 : w.heap.size + 1 ≠ kD := Ne.symm eD1
      have eD2 : kD ≠ w.heap.size := by have h := (LC.out n).2.2.1.1; omega
      have dD2 : w.heap.size ≠ kD := Ne.symm eD2
      clear hkk
      obtain ⟨D, hC0, HD, LD, BD, hne⟩ := cls S0
      haveI := hne
      obtain ⟨d0, rfl⟩ : ∃ n : Wd D, W0 = n.w := ⟨⟨_, hC0⟩, rfl⟩
      have fD0 : ∀ n : Wd D, n.w.cell? ⟨kD, 0, none⟩ = some (.int .i64 0) := fun n => (LD.out n).1.2.1
      have zD0 : ∀ n : Wd D, n.w.frozen? ⟨kD, 0, none⟩ = false := fun n => (LD.out n).1.2.2
      have fD1 : ∀ n : Wd D, n.w.cell? ⟨kD, 1, none⟩ = some (.int .i64 0) := fun n => (LD.out n).2.1.2.1
      have zD1 : ∀ n : Wd D, n.w.frozen? ⟨kD, 1, none⟩ = false := fun n => (LD.out n).2.1.2.2
      have fD2 : ∀ n : Wd D, n.w.cell? ⟨w.heap.size + 1, 0, none⟩ = some (.int .i64 0) := fun n => (LD.out n).2.2.1.2.1
      have zD2 : ∀ n : Wd D, n.w.frozen? ⟨w.heap.size + 1, 0, none⟩ = false := fun n => (LD.out n).2.2.1.2.2
      have fD3 : ∀ n : Wd D, n.w.cell? ⟨w.heap.size + 1, 1, none⟩ = some (.int .i64 0) := fun n => (LD.out n).2.2.2.1.2.1
      have zD3 : ∀ n : Wd D, n.w.frozen? ⟨w.heap.size + 1, 1, none⟩ = false := fun n => (LD.out n).2.2.2.1.2.2
      have fD4 : ∀ n : Wd D, n.w.cell? ⟨w.heap.size, 0, none⟩ = some (.slice q1 cs.length c1) := fun n => (LD.out n).2.2.2.2.1.2.1
      have zD4 : ∀ n : Wd D, n.w.frozen? ⟨w.heap.size, 0, none⟩ = false := fun n => (LD.out n).2.2.2.2.1.2.2
      have fD5 : ∀ n : Wd D, n.w.cell? ⟨w.heap.size, 1, none⟩ = some (.slice q2 ps.length c2) := fun n => (LD.out n).2.2.2.2.2.1.2.1
      have zD5 : ∀ n : Wd D, n.w.frozen? ⟨w.heap.size, 1, none⟩ = false := fun n => (LD.out n).2.2.2.2.2.1.2.2
      have fD6 : ∀ n : Wd D, n.w.cell? ⟨w.heap.size, 2, none⟩ = some (.slice q3 rs.length c3) := fun n => (LD.out n).2.2.2.2.2.2.1.2.1
      have zD6 : ∀ n : Wd D, n.w.frozen? ⟨w.heap.size, 2, none⟩ = false := fun n => (LD.out n).2.2.2.2.2.2.1.2.2
      clear S0 hC0
      have S1 : St w d0.w (ttL w.heap.size kD (.slice q1 cs.length c1) (.slice q2 ps.length c2) (.slice q3 rs.length c3) (smLo X (l.take 0)) (smHi X (l.take 0))) := ⟨BD.out d0, LD.out d0⟩
      obtain ⟨w0, hw0⟩ : ∃ w0, d0.w = w0 := ⟨_, rfl⟩
      rw [hw0] at S1 ⊢
      clear hw0 fD0 fD1 fD2 fD3 fD4 fD5 fD6 zD0 zD1 zD2 zD3 zD4 zD5 zD6 LD BD HD hne d0 fC0 fC1 fC2 fC3 fC4 zC0 zC1 zC2 zC3 zC4 D1 HC n
      go_upto_region 8 with fail
      go_loopw [8] (fun i wr => ∃ (k : Nat), St w wr (ttL w.heap.size kD (.slice q1 cs.length c1) (.slice q2 ps.length c2) (.slice q3 rs.length c3) (smLo X (l.take k)) (smHi X (l.take k))) ∧ i = .int .i64 (k : Int) ∧ k ≤ l.length ∧ erF X (l.take k) = 0) (fun i wr => l.length - (intOf i).toNat)
      case atStart => exact ⟨0, S1, rfl, Nat.zero_le _, rfl⟩
      case round =>
        clear S1
        obtain ⟨k, hS, rfl, hk, her⟩ := hrel
        have HER := Lib.hid her
        clear her
        by_cases hlt : k < l.length
        · rcases H.out with h0 | ⟨b, o, rfl, hb, hc⟩
          · exact absurd hlt (by simp [show l = [] from h0])
          obtain ⟨d1, d2, d3, d4, d5⟩ := hc k l[k] (List.getElem?_eq_getElem hlt)
          have b1 := (hS.b.cell (p := ⟨b, o + k * 5, none⟩) hb).trans d1
          have b2 := (hS.b.cell (p := ⟨b, o + k * 5 + 1, none⟩) hb).trans d2
          have b3 := (hS.b.cell (p := ⟨b, o + k * 5 + 2, none⟩) hb).trans d3
          have b4 := (hS.b.cell (p := ⟨b, o + k * 5 + 3, none⟩) hb).trans d4
          have b5 := (hS.b.cell (p := ⟨b, o + k * 5 + 4, none⟩) hb).trans d5
          have hsn : smLo X (l.take (k + 1)) = smLo X (l.take k) + dsLo X l[k] ∧ smHi X (l.take (k + 1)) = smHi X (l.take k) + dsHi X l[k] ∧ erF X (l.take (k + 1)) = dsE X l[k] := by
            rw [take_snocG l k hlt, smLo_app, smHi_app, erF_app, HER.out]
            refine ⟨by simp [smLo], by simp [smHi], ?_⟩
            rw [if_pos rfl]
            unfold erF erF
            split
            · rename_i e; exact e.symm
            · rfl
          have hall : dsE X l[k] ≠ 0 → erF X l = dsE X l[k] := fun e => by
            have h1 : erF X l = erF X (l.take (k + 1) ++ l.drop (k + 1)) := congrArg (erF X) (List.take_append_drop _ _).symm
            rw [h1, erF_app, hsn.2.2, if_neg e]
          have hbd := sm_bd X (l.take k)
          have hbd2 := ds_bd X l[k]
          have hln : (l.take k).length = k := by rw [List.length_take]; omega
          rw [hln] at hbd
          obtain ⟨m, hm⟩ : ∃ m, l[k] = m := ⟨_, rfl⟩
          simp only [show l[k] = m from hm] at d1 d2 d3 d4 d5 hsn hall hbd2
          obtain ⟨a, ha⟩ : ∃ a, smLo X (l.take k) = a := ⟨_, rfl⟩
          obtain ⟨a2, ha2⟩ : ∃ a, smHi X (l.take k) = a := ⟨_, rfl⟩
          rw [ha] at hS hbd hsn
          rw [ha2] at hS hbd hsn
          have KM := K2 m
          obtain ⟨p, hp⟩ : ∃ p, dsLo X m = p := ⟨_, rfl⟩
          obtain ⟨p2, hp2⟩ : ∃ p, dsHi X m = p := ⟨_, rfl⟩
          obtain ⟨g, hg⟩ : ∃ p, dsE X m = p := ⟨_, rfl⟩
          simp only [hp, hp2, hg] at KM hsn hall hbd2
          obtain ⟨m1, m2, m3, m4, m5⟩ := m
          simp only at d1 d2 d3 d4 d5 KM
          have hw1 : wrap64 (a + p) = a + p := w64 (by omega)
          have hw2 : wrap64 (a2 + p2) = a2 + p2 := w64 (by omega)
          have HSN := Lib.hid hsn
          have HALL := Lib.hid hall
          have hlt' : (k : Int) < (l.length : Int) := by omega
          have c0 : ∀ (o : Nat) (v : Value), w.cell? ⟨b, o, none⟩ = some v → ∀ W, Below w.heap.size w W → W.cell? ⟨b, o, none⟩ = some v := fun o v hv W hbW => (hbW.cell (p := ⟨b, o, none⟩) hb).trans hv
          have HBL := Lib.hid hb
          have HMM := Lib.hid (And.intro (c0 _ _ d1) (And.intro (c0 _ _ d2) (And.intro (c0 _ _ d3) (And.intro (c0 _ _ d4) (c0 _ _ d5)))))
          clear d1 d2 d3 d4 d5 b1 b2 b3 b4 b5 c0 hc hb hm ha ha2 hp hp2 hg hbd hbd2 hsn hall hln
          obtain ⟨F, hC0, HF, LF, BF, hne⟩ := cls hS
          haveI := hne
          obtain ⟨f0, rfl⟩ : ∃ n : Wd F, wr = n.w := ⟨⟨_, hC0⟩, rfl⟩
          have fF0 : ∀ n : Wd F, n.w.cell? ⟨kD, 0, none⟩ = some (.int .i64 a) := fun n => (LF.out n).1.2.1
          have fF1 : ∀ n : Wd F, n.w.cell? ⟨kD, 1, none⟩ = some (.int .i64 a2) := fun n => (LF.out n).2.1.2.1
          have fF2 : ∀ n : Wd F, n.w.cell? ⟨w.heap.size + 1, 0, none⟩ = some (.int .i64 0) := fun n => (LF.out n).2.2.1.2.1
          have zF2 : ∀ n : Wd F, n.w.frozen? ⟨w.heap.size + 1, 0, none⟩ = false := fun n => (LF.out n).2.2.1.2.2
          have fF3 : ∀ n : Wd F, n.w.cell? ⟨w.heap.size + 1, 1, none⟩ = some (.int .i64 0) := fun n => (LF.out n).2.2.2.1.2.1
          have zF3 : ∀ n : Wd F, n.w.frozen? ⟨w.heap.size + 1, 1, none⟩ = false := fun n => (LF.out n).2.2.2.1.2.2
          have fF4 : ∀ n : Wd F, n.w.cell? ⟨w.heap.size, 0, none⟩ = some (.slice q1 cs.length c1) := fun n => (LF.out n).2.2.2.2.1.2.1
          have zF4 : ∀ n : Wd F, n.w.frozen? ⟨w.heap.size, 0, none⟩ = false := fun n => (LF.out n).2.2.2.2.1.2.2
          have fF5 : ∀ n : Wd F, n.w.cell? ⟨w.heap.size, 1, none⟩ = some (.slice q2 ps.length c2) := fun n => (LF.out n).2.2.2.2.2.1.2.1
          have zF5 : ∀ n : Wd F, n.w.frozen? ⟨w.heap.size, 1, none⟩ = false := fun n => (LF.out n).2.2.2.2.2.1.2.2
          have fF6 : ∀ n : Wd F, n.w.cell? ⟨w.heap.size, 2, none⟩ = some (.slice q3 rs.length c3) := fun n => (LF.out n).2.2.2.2.2.2.1.2.1
          have zF6 : ∀ n : Wd F, n.w.frozen? ⟨w.heap.size, 2, none⟩ = false := fun n => (LF.out n).2.2.2.2.2.2.1.2.2
          clear hS hC0
          have zF0 : ∀ n : Wd F, n.w.frozen? ⟨kD, 0, none⟩ = false := fun n => (LF.out n).1.2.2
          have zF1 : ∀ n : Wd F, n.w.frozen? ⟨kD, 1, none⟩ = false := fun n => (LF.out n).2.1.2.2
          have fM0 : ∀ n : Wd F, n.w.cell? ⟨b, o + k * 5, none⟩ = some (.int .i64 m1) := fun n => HMM.out.1 _ (BF.out n)
          have fM1 : ∀ n : Wd F, n.w.cell? ⟨b, o + k * 5 + 1, none⟩ = some (.int .i64 m2) := fun n => HMM.out.2.1 _ (BF.out n)
          have fM2 : ∀ n : Wd F, n.w.cell? ⟨b, o + k * 5 + 2, none⟩ = some (.int .i64 m3) := fun n => HMM.out.2.2.1 _ (BF.out n)
          have fM3 : ∀ n : Wd F, n.w.cell? ⟨b, o + k * 5 + 3, none⟩ = some (.int .i64 m4) := fun n => HMM.out.2.2.2.1 _ (BF.out n)
          have fM4 : ∀ n : Wd F, n.w.cell? ⟨b, o + k * 5 + 4, none⟩ = some (.int .i64 m5) := fun n => HMM.out.2.2.2.2 _ (BF.out n)
          go_upto_region 10 with fail
          have hbf := (LF.out f0).1.1
          have hbw : w.heap.size < f0.w.heap.size := (LF.out f0).2.2.2.2.1.1
          have hbb : b < f0.w.heap.size := Nat.lt_of_lt_of_le HBL.out (BF.out f0).size
          have HCS := Lib.hid (And.intro (fF4 f0) (And.intro (fF5 f0) (And.intro (fF6 f0) (And.intro (fM0 f0) (And.intro (fM1 f0) (And.intro (fM2 f0) (And.intro (fM3 f0) (fM4 f0))))))))
          have HBF := Lib.hid (BF.out f0)
          have hLS : ∀ x ∈ ([(w.heap.size, 0, .slice q1 cs.length c1), (w.heap.size, 1, .slice q2 ps.length c2), (w.heap.size, 2, .slice q3 rs.length c3), (b, o + k * 5, .int .i64 m1), (b, o + k * 5 + 1, .int .i64 m2), (b, o + k * 5 + 2, .int .i64 m3), (b, o + k * 5 + 3, .int .i64 m4), (b, o + k * 5 + 4, .int .i64 m5)] : List (Nat × Nat × Value)), x.1 < f0.w.heap.size := by simp only [List.forall_mem_cons, List.not_mem_nil, false_implies, implies_true, and_true]; omega
          have S0 : Hid ((f0.w.drew.cell? ⟨w.heap.size, 0, none⟩ = some (.slice q1 cs.length c1) ∧ f0.w.drew.cell? ⟨w.heap.size, 1, none⟩ = some (.slice q2 ps.length c2) ∧ f0.w.drew.cell? ⟨w.heap.size, 2, none⟩ = some (.slice q3 rs.length c3) ∧ f0.w.drew.cell? ⟨b, o + k * 5, none⟩ = some (.int .i64 m1) ∧ f0.w.drew.cell? ⟨b, o + k * 5 + 1, none⟩ = some (.int .i64 m2) ∧ f0.w.drew.cell? ⟨b, o + k * 5 + 2, none⟩ = some (.int .i64 m3) ∧ f0.w.drew.cell? ⟨b, o + k * 5 + 3, none⟩ = some (.int .i64 m4) ∧ f0.w.drew.cell? ⟨b, o + k * 5 + 4, none⟩ = some (.int .i64 m5)) ∧ Below f0.w.heap.size f0.w f0.w.drew) := hStart (L := [(w.heap.size, 0, .slice q1 cs.length c1), (w.heap.size, 1, .slice q2 ps.length c2), (w.heap.size, 2, .slice q3 rs.length c3), (b, o + k * 5, .int .i64 m1), (b, o + k * 5 + 1, .int .i64 m2), (b, o + k * 5 + 2, .int .i64 m3), (b, o + k * 5 + 3, .int .i64 m4), (b, o + k * 5 + 4, .int .i64 m5)]) hLS HCS.out
          have KC : ∀ W W', Hid (Below W.heap.size W W' → ((W.cell? ⟨w.heap.size, 0, none⟩ = some (.slice q1 cs.length c1) ∧ W.cell? ⟨w.heap.size, 1, none⟩ = some (.slice q2 ps.length c2) ∧ W.cell? ⟨w.heap.size, 2, none⟩ = some (.slice q3 rs.length c3) ∧ W.cell? ⟨b, o + k * 5, none⟩ = some (.int .i64 m1) ∧ W.cell? ⟨b, o + k * 5 + 1, none⟩ = some (.int .i64 m2) ∧ W.cell? ⟨b, o + k * 5 + 2, none⟩ = some (.int .i64 m3) ∧ W.cell? ⟨b, o + k * 5 + 3, none⟩ = some (.int .i64 m4) ∧ W.cell? ⟨b, o + k * 5 + 4, none⟩ = some (.int .i64 m5)) ∧ Below f0.w.heap.size f0.w W) → ((W'.cell? ⟨w.heap.size, 0, none⟩ = some (.slice q1 cs.length c1) ∧ W'.cell? ⟨w.heap.size, 1, none⟩ = some (.slice q2 ps.length c2) ∧ W'.cell? ⟨w.heap.size, 2, none⟩ = some (.slice q3 rs.length c3) ∧ W'.cell? ⟨b, o + k * 5, none⟩ = some (.int .i64 m1) ∧ W'.cell? ⟨b, o + k * 5 + 1, none⟩ = some (.int .i64 m2) ∧ W'.cell? ⟨b, o + k * 5 + 2, none⟩ = some (.int .i64 m3) ∧ W'.cell? ⟨b, o + k * 5 + 3, none⟩ = some (.int .i64 m4) ∧ W'.cell? ⟨b, o + k * 5 + 4, none⟩ = some (.int .i64 m5)) ∧ Below f0.w.heap.size f0.w W')) := fun W W' h1 h2 => hCall (L := [(w.heap.size, 0, .slice q1 cs.length c1), (w.heap.size, 1, .slice q2 ps.length c2), (w.heap.size, 2, .slice q3 rs.length c3), (b, o + k * 5, .int .i64 m1), (b, o + k * 5 + 1, .int .i64 m2), (b, o + k * 5 + 2, .int .i64 m3), (b, o + k * 5 + 3, .int .i64 m4), (b, o + k * 5 + 4, .int .i64 m5)]) hLS h1 h2
          have KS : ∀ (W : World) (kk : Nat) (v0 v1 : Value), Hid (f0.w.heap.size ≤ kk → ((W.cell? ⟨w.heap.size, 0, none⟩ = some (.slice q1 cs.length c1) ∧ W.cell? ⟨w.heap.size, 1, none⟩ = some (.slice q2 ps.length c2) ∧ W.cell? ⟨w.heap.size, 2, none⟩ = some (.slice q3 rs.length c3) ∧ W.cell? ⟨b, o + k * 5, none⟩ = some (.int .i64 m1) ∧ W.cell? ⟨b, o + k * 5 + 1, none⟩ = some (.int .i64 m2) ∧ W.cell? ⟨b, o + k * 5 + 2, none⟩ = some (.int .i64 m3) ∧ W.cell? ⟨b, o + k * 5 + 3, none⟩ = some (.int .i64 m4) ∧ W.cell? ⟨b, o + k * 5 + 4, none⟩ = some (.int .i64 m5)) ∧ Below f0.w.heap.size f0.w W) → ((((W.setCell ⟨kk, 0, none⟩ v0).setCell ⟨kk, 1, none⟩ v1).cell? ⟨w.heap.size, 0, none⟩ = some (.slice q1 cs.length c1) ∧ ((W.setCell ⟨kk, 0, none⟩ v0).setCell ⟨kk, 1, none⟩ v1).cell? ⟨w.heap.size, 1, none⟩ = some (.slice q2 ps.length c2) ∧ ((W.setCell ⟨kk, 0, none⟩ v0).setCell ⟨kk, 1, none⟩ v1).cell? ⟨w.heap.size, 2, none⟩ = some (.slice q3 rs.length c3) ∧ ((W.setCell ⟨kk, 0, none⟩ v0).setCell ⟨kk, 1, none⟩ v1).cell? ⟨b, o + k * 5, none⟩ = some (.int .i64 m1) ∧ ((W.setCell ⟨kk, 0, none⟩ v0).setCell ⟨kk, 1, none⟩ v1).cell? ⟨b, o + k * 5 + 1, none⟩ = some (.int .i64 m2) ∧ ((W.setCell ⟨kk, 0, none⟩ v0).setCell ⟨kk, 1, none⟩ v1).cell? ⟨b, o + k * 5 + 2, none⟩ = some (.int .i64 m3) ∧ ((W.setCell ⟨kk, 0, none⟩ v0).setCell ⟨kk, 1, none⟩ v1).cell? ⟨b, o + k * 5 + 3, none⟩ = some (.int .i64 m4) ∧ ((W.setCell ⟨kk, 0, none⟩ v0).setCell ⟨kk, 1, none⟩ v1).cell? ⟨b, o + k * 5 + 4, none⟩ = some (.int .i64 m5)) ∧ Below f0.w.heap.size f0.w ((W.setCell ⟨kk, 0, none⟩ v0).setCell ⟨kk, 1, none⟩ v1))) := fun W kk v0 v1 h h2 => hSet2 (L := [(w.heap.size, 0, .slice q1 cs.length c1), (w.heap.size, 1, .slice q2 ps.length c2), (w.heap.size, 2, .slice q3 rs.length c3), (b, o + k * 5, .int .i64 m1), (b, o + k * 5 + 1, .int .i64 m2), (b, o + k * 5 + 2, .int .i64 m3), (b, o + k * 5 + 3, .int .i64 m4), (b, o + k * 5 + 4, .int .i64 m5)]) hLS h h2
          have KA : ∀ (W : World) (ob1 ob2 : Obj), Hid (f0.w.heap.size ≤ W.heap.size → (((W.alloc ob1).cell? ⟨w.heap.size, 0, none⟩ = some (.slice q1 cs.length c1) ∧ (W.alloc ob1).cell? ⟨w.heap.size, 1, none⟩ = some (.slice q2 ps.length c2) ∧ (W.alloc ob1).cell? ⟨w.heap.size, 2, none⟩ = some (.slice q3 rs.length c3) ∧ (W.alloc ob1).cell? ⟨b, o + k * 5, none⟩ = some (.int .i64 m1) ∧ (W.alloc ob1).cell? ⟨b, o + k * 5 + 1, none⟩ = some (.int .i64 m2) ∧ (W.alloc ob1).cell? ⟨b, o + k * 5 + 2, none⟩ = some (.int .i64 m3) ∧ (W.alloc ob1).cell? ⟨b, o + k * 5 + 3, none⟩ = some (.int .i64 m4) ∧ (W.alloc ob1).cell? ⟨b, o + k * 5 + 4, none⟩ = some (.int .i64 m5)) ∧ Below f0.w.heap.size f0.w (W.alloc ob1)) → (((W.alloc ob2).cell? ⟨w.heap.size, 0, none⟩ = some (.slice q1 cs.length c1) ∧ (W.alloc ob2).cell? ⟨w.heap.size, 1, none⟩ = some (.slice q2 ps.length c2) ∧ (W.alloc ob2).cell? ⟨w.heap.size, 2, none⟩ = some (.slice q3 rs.length c3) ∧ (W.alloc ob2).cell? ⟨b, o + k * 5, none⟩ = some (.int .i64 m1) ∧ (W.alloc ob2).cell? ⟨b, o + k * 5 + 1, none⟩ = some (.int .i64 m2) ∧ (W.alloc ob2).cell? ⟨b, o + k * 5 + 2, none⟩ = some (.int .i64 m3) ∧ (W.alloc ob2).cell? ⟨b, o + k * 5 + 3, none⟩ = some (.int .i64 m4) ∧ (W.alloc ob2).cell? ⟨b, o + k * 5 + 4, none⟩ = some (.int .i64 m5)) ∧ Below f0.w.heap.size f0.w (W.alloc ob2))) := fun W ob1 ob2 h h2 => hAl2 (L := [(w.heap.size, 0, .slice q1 cs.length c1), (w.heap.size, 1, .slice q2 ps.length c2), (w.heap.size, 2, .slice q3 rs.length c3), (b, o + k * 5, .int .i64 m1), (b, o + k * 5 + 1, .int .i64 m2), (b, o + k * 5 + 2, .int .i64 m3), (b, o + k * 5 + 3, .int .i64 m4), (b, o + k * 5 + 4, .int .i64 m5)]) hLS h h2
          have E2 := fun W (h : (W.cell? ⟨w.heap.size, 0, none⟩ = some (.slice q1 cs.length c1) ∧ W.cell? ⟨w.heap.size, 1, none⟩ = some (.slice q2 ps.length c2) ∧ W.cell? ⟨w.heap.size, 2, none⟩ = some (.slice q3 rs.length c3) ∧ W.cell? ⟨b, o + k * 5, none⟩ = some (.int .i64 m1) ∧ W.cell? ⟨b, o + k * 5 + 1, none⟩ = some (.int .i64 m2) ∧ W.cell? ⟨b, o + k * 5 + 2, none⟩ = some (.int .i64 m3) ∧ W.cell? ⟨b, o + k * 5 + 3, none⟩ = some (.int .i64 m4) ∧ W.cell? ⟨b, o + k * 5 + 4, none⟩ = some (.int .i64 m5)) ∧ Below f0.w.heap.size f0.w W) => Lib.hid (KM W (HBF.out.trans (h.2.mono HBF.out.size)))
          have KZ : ∀ W W', Hid (Below W.heap.size W W' → ((W.cell? ⟨w.heap.size, 0, none⟩ = some (.slice q1 cs.length c1) ∧ W.cell? ⟨w.heap.size, 1, none⟩ = some (.slice q2 ps.length c2) ∧ W.cell? ⟨w.heap.size, 2, none⟩ = some (.slice q3 rs.length c3) ∧ W.cell? ⟨b, o + k * 5, none⟩ = some (.int .i64 m1) ∧ W.cell? ⟨b, o + k * 5 + 1, none⟩ = some (.int .i64 m2) ∧ W.cell? ⟨b, o + k * 5 + 2, none⟩ = some (.int .i64 m3) ∧ W.cell? ⟨b, o + k * 5 + 3, none⟩ = some (.int .i64 m4) ∧ W.cell? ⟨b, o + k * 5 + 4, none⟩ = some (.int .i64 m5)) ∧ Below f0.w.heap.size f0.w W) → f0.w.heap.size ≤ W'.heap.size) := fun W W' h1 h2 => Nat.le_trans h2.2.size h1.size
          clear hLS hbb
          go_region_held3 (fun W => (W.cell? ⟨w.heap.size, 0, none⟩ = some (.slice q1 cs.length c1) ∧ W.cell? ⟨w.heap.size, 1, none⟩ = some (.slice q2 ps.length c2) ∧ W.cell? ⟨w.heap.size, 2, none⟩ = some (.slice q3 rs.length c3) ∧ W.cell? ⟨b, o + k * 5, none⟩ = some (.int .i64 m1) ∧ W.cell? ⟨b, o + k * 5 + 1, none⟩ = some (.int .i64 m2) ∧ W.cell? ⟨b, o + k * 5 + 2, none⟩ = some (.int .i64 m3) ∧ W.cell? ⟨b, o + k * 5 + 3, none⟩ = some (.int .i64 m4) ∧ W.cell? ⟨b, o + k * 5 + 4, none⟩ = some (.int .i64 m5)) ∧ Below f0.w.heap.size f0.w W)
            (first | (with_reducible exact S0.out) | (with_reducible exact (KC _ _).out (by assumption) (by assumption)) | (with_reducible exact (KC _ _).out (below_al _ _) (by assumption)) | (with_reducible exact (KA _ _ _).out (by assumption) (by assumption)) | (with_reducible exact (KS _ _ _ _).out (by first | assumption | omega | (simp; omega) | simp) (by assumption)))
            (first | (go_at_call 50; with_reducible refine (E2 _ (by assumption)).out.mono ?_; rintro e w' ⟨rfl, hb⟩; have hn := (KZ _ _).out hb (by with_reducible assumption); (first | (with_reducible have hz := new2 hb) | (with_reducible have hz := new2d hb) | skip)))
          all_goals
            rename_i hHeld
            have hkF : ∀ k, f0.w.heap.size ≤ k → k ≠ kD ∧ k ≠ w.heap.size + 1 ∧ kD ≠ k ∧ w.heap.size + 1 ≠ k := fun k h => by have h1 := (LF.out f0).1.1; have h2 := (LF.out f0).2.2.1.1; omega
            first
              | (obtain ⟨W1, hW1⟩ : ∃ W1, w'.alloc (.cells #[.int .i64 p, .int .i64 p2] 30) = W1 := ⟨_, rfl⟩
                 have HM : Made2 f0.w W1 w'.heap.size (.int .i64 p) (.int .i64 p2) := by rw [← hW1]; exact made2_al (L := [(w.heap.size, 0, .slice q1 cs.length c1), (w.heap.size, 1, .slice q2 ps.length c2), (w.heap.size, 2, .slice q3 rs.length c3), (b, o + k * 5, .int .i64 m1), (b, o + k * 5 + 1, .int .i64 m2), (b, o + k * 5 + 2, .int .i64 m3), (b, o + k * 5 + 3, .int .i64 m4), (b, o + k * 5 + 4, .int .i64 m5)]) hn hHeld
                 obtain ⟨k1, hk1⟩ : ∃ k, w'.heap.size = k := ⟨_, rfl⟩
                 rw [hk1] at HM
                 rw [hW1, hk1]
                 clear hW1 hk1 hHeld hn hb)
              | (obtain ⟨W1, hW1⟩ : ∃ W1, (w'.setCell ⟨f0.w.heap.size, 0, none⟩ (.int .i64 p)).setCell ⟨f0.w.heap.size, 1, none⟩ (.int .i64 p2) = W1 := ⟨_, rfl⟩
                 have hlt : f0.w.heap.size < w'.heap.size := by have := hb.size; simp at this; omega
                 have HM : Made2 f0.w W1 f0.w.heap.size (.int .i64 p) (.int .i64 p2) := by rw [← hW1]; exact made2_set (L := [(w.heap.size, 0, .slice q1 cs.length c1), (w.heap.size, 1, .slice q2 ps.length c2), (w.heap.size, 2, .slice q3 rs.length c3), (b, o + k * 5, .int .i64 m1), (b, o + k * 5 + 1, .int .i64 m2), (b, o + k * 5 + 2, .int .i64 m3), (b, o + k * 5 + 3, .int .i64 m4), (b, o + k * 5 + 4, .int .i64 m5)]) (Nat.le_refl _) hlt hz.1 hz.2 hHeld
                 obtain ⟨k1, hk1⟩ : ∃ k, f0.w.heap.size = k := ⟨_, rfl⟩
                 rw [hk1] at HM
                 rw [hW1, hk1]
                 clear hW1 hk1 hHeld hn hb hlt hz)
            obtain ⟨hk1D, hk1B, hk1D', hk1B'⟩ := hkF k1 HM.2.1
            have S3 : St w W1 ((k1, 0, .int .i64 p) :: (k1, 1, .int .i64 p2) :: [(kD, 0, .int .i64 a), (kD, 1, .int .i64 a2), (w.heap.size + 1, 0, .int .i64 0), (w.heap.size + 1, 1, .int .i64 0), (w.heap.size, 0, .slice q1 cs.length c1), (w.heap.size, 1, .slice q2 ps.length c2), (w.heap.size, 2, .slice q3 rs.length c3)]) := St.made2 ⟨HBF.out, LF.out f0⟩ HM
            clear S0 KC KS KA E2 KZ HM hkF HCS HBF HMM
            obtain ⟨J, hC0, HJ, LJ, BJ, hne⟩ := cls S3
            haveI := hne
            obtain ⟨j0, rfl⟩ : ∃ n : Wd J, W1 = n.w := ⟨⟨_, hC0⟩, rfl⟩
            have fJ0 : ∀ n : Wd J, n.w.cell? ⟨k1, 0, none⟩ = some (.int .i64 p) := fun n => (LJ.out n).1.2.1
            have fJ1 : ∀ n : Wd J, n.w.cell? ⟨k1, 1, none⟩ = some (.int .i64 p2) := fun n => (LJ.out n).2.1.2.1
            have fJ2 : ∀ n : Wd J, n.w.cell? ⟨kD, 0, none⟩ = some (.int .i64 a) := fun n => (LJ.out n).2.2.1.2.1
            have fJ3 : ∀ n : Wd J, n.w.cell? ⟨kD, 1, none⟩ = some (.int .i64 a2) := fun n => (LJ.out n).2.2.2.1.2.1
            have fJ4 : ∀ n : Wd J, n.w.cell? ⟨w.heap.size + 1, 0, none⟩ = some (.int .i64 0) := fun n => (LJ.out n).2.2.2.2.1.2.1
            have zJ4 : ∀ n : Wd J, n.w.frozen? ⟨w.heap.size + 1, 0, none⟩ = false := fun n => (LJ.out n).2.2.2.2.1.2.2
            have fJ5 : ∀ n : Wd J, n.w.cell? ⟨w.heap.size + 1, 1, none⟩ = some (.int .i64 0) := fun n => (LJ.out n).2.2.2.2.2.1.2.1
            have zJ5 : ∀ n : Wd J, n.w.frozen? ⟨w.heap.size + 1, 1, none⟩ = false := fun n => (LJ.out n).2.2.2.2.2.1.2.2
            have fJ6 : ∀ n : Wd J, n.w.cell? ⟨w.heap.size, 0, none⟩ = some (.slice q1 cs.length c1) := fun n => (LJ.out n).2.2.2.2.2.2.1.2.1
            have zJ6 : ∀ n : Wd J, n.w.frozen? ⟨w.heap.size, 0, none⟩ = false := fun n => (LJ.out n).2.2.2.2.2.2.1.2.2
            have fJ7 : ∀ n : Wd J, n.w.cell? ⟨w.heap.size, 1, none⟩ = some (.slice q2 ps.length c2) := fun n => (LJ.out n).2.2.2.2.2.2.2.1.2.1
            have zJ7 : ∀ n : Wd J, n.w.frozen? ⟨w.heap.size, 1, none⟩ = false := fun n => (LJ.out n).2.2.2.2.2.2.2.1.2.2
            have fJ8 : ∀ n : Wd J, n.w.cell? ⟨w.heap.size, 2, none⟩ = some (.slice q3 rs.length c3) := fun n => (LJ.out n).2.2.2.2.2.2.2.2.1.2.1
            have zJ8 : ∀ n : Wd J, n.w.frozen? ⟨w.heap.size, 2, none⟩ = false := fun n => (LJ.out n).2.2.2.2.2.2.2.2.1.2.2
            clear S3 hC0
            have zJ2 : ∀ n : Wd J, n.w.frozen? ⟨kD, 0, none⟩ = false := fun n => (LJ.out n).2.2.1.2.2
            have zJ3 : ∀ n : Wd J, n.w.frozen? ⟨kD, 1, none⟩ = false := fun n => (LJ.out n).2.2.2.1.2.2
            by_cases hg0 : g = 0
            · subst hg0
              clear HALL
              have hc : Cs j0.w (ttL w.heap.size kD (.slice q1 cs.length c1) (.slice q2 ps.length c2) (.slice q3 rs.length c3) a a2) := (LJ.out j0).2.2
              have HC9 := Lib.hid hc
              clear hc
              go_wp2_with fail
              go_roundw
              case rel => exact ⟨k + 1, by rw [HSN.out.1, HSN.out.2.1]; exact ⟨below_grownB (BJ.out j0) gkD (grown_trans (set_grown _ _ _ _) (set_grown _ _ _ _)), ttL_set HC9.out eD1 eD2⟩, by simp, hlt, HSN.out.2.2⟩
              case measure => simp [intOf]; omega
            · have hgb : (g != 0) = true := by simpa using hg0
              have he := HALL.out hg0
              obtain ⟨rfl, rfl⟩ := HN.out (by rw [he]; exact hg0)
              obtain rfl : g = E := by rw [HEE.out, he]
              clear HALL he
              have y0 : ∀ n : Wd J, n.w.frozen? ⟨w.heap.size + 1, 0, none⟩ = false := fun n => (LJ.out n).2.2.2.2.1.2.2
              have y1 : ∀ n : Wd J, n.w.frozen? ⟨w.heap.size + 1, 1, none⟩ = false := fun n => (LJ.out n).2.2.2.2.2.1.2.2
              have hs1 : w.heap.size + 1 < j0.w.heap.size := (LJ.out j0).2.2.2.2.1.1
              clear hg0
              go_wp2_with fail
              refine bodyPost_ret (v := .tuple #[spv 0 0, .int .i64 g]) (by simp [results, Tryz.results52, go_sem, fJ4, fJ5]) rfl ⟨rfl, ?_⟩
              exact set2 (BJ.out j0) (by omega) _ _
        · obtain rfl : k = l.length := by omega
          rw [List.take_length] at hS HER
          obtain ⟨hA, hB1⟩ := HZ.out HER.out
          obtain rfl : 0 = E := by rw [HEE.out, HER.out]
          obtain ⟨a, ha⟩ : ∃ a, smLo X l = a := ⟨_, rfl⟩
          obtain ⟨a2, ha2⟩ : ∃ a, smHi X l = a := ⟨_, rfl⟩
          rw [ha, ha2] at hS
          obtain rfl : a = A := by rw [hA, ha]
          obtain rfl : a2 = B1 := by rw [hB1, ha2]
          have HS := Lib.hid hS
          obtain ⟨⟨-, g0, -⟩, ⟨-, g1, -⟩, ⟨z0, e0, y0⟩, ⟨-, e1, y1⟩, -⟩ := hS.c
          clear hS ha ha2 HZ HN HER hA hB1
          go_wp2_with fail
          refine bodyPost_ret (v := .tuple #[spv a a2, .int .i64 0]) (by simp [results, Tryz.results52, go_sem, e0, e1]) rfl ⟨rfl, ?_⟩
          exact set2 HS.out.b (by omega) _ _
  · obtain ⟨rfl, rfl, rfl⟩ := HE1.out hk0
    have hb : (E != 0) = true := by simpa using hk0
    clear hk0
    go_wp2_with (first | first | (go_at_call 24; with_reducible refine (D1 _).out.mono ?_; rintro e w' ⟨rfl, n, rfl⟩))
    refine bodyPost_ret (v := .tuple #[spv 0 0, .int .i64 E]) (by simp [results, Tryz.results52, go_sem, fC0, fC1]) rfl ⟨rfl, ?_⟩
    exact set2 (BC.out _) (by omega) _ _
end Go.Proofs.YtcejmfgbfdhflaaGreat
