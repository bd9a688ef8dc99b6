import Derived.Test.YtcejmfgbfdhflaaGreatEa
import Derived.Test.YtcejmfgbfdhflaaGreatQd
import Derived.WalkKit
import Derived.LoopTactic
import Derived.WalkSpells
import Derived.WalkLawsBesides
import Derived.Lib.Hide
import Derived.BigQuiet
import Derived.IntWalk
import Derived.Deep.DeepMust
import Derived.WalkSmall
import Derived.StillTailTactics
import Derived.Deep.RegionLaw
import Derived.Deep.RegionHeld3
import Derived.Deep.QuietTactic
namespace Go.Proofs.YtcejmfgbfdhflaaGreat
open Go.RowKit Go.BigFrame Go.Sort
attribute [local go_sem] World.cell?_alloc_some
/-- Measures lie there. -/
def MssAt (W : World) (q : Option Addr) (l : List Ms) : Prop :=
  l = [] ∨ ∃ b o, q = some ⟨b, o, none⟩ ∧ b < W.heap.size ∧ ∀ (j : Nat) (m : Ms), l[j]? = some m → W.cell? ⟨b, o + j * 5, none⟩ = some (.int .i64 m.ch) ∧ W.cell? ⟨b, o + j * 5 + 1, none⟩ = some (.int .i64 m.year) ∧ W.cell? ⟨b, o + j * 5 + 2, none⟩ = some (.int .i64 m.chains) ∧ W.cell? ⟨b, o + j * 5 + 3, none⟩ = some (.int .i64 m.links) ∧ W.cell? ⟨b, o + j * 5 + 4, none⟩ = some (.int .i64 m.slack)
theorem MssAt.keep {W W' : World} {q : Option Addr} {l : List Ms} (h : MssAt W q l) (hb : Below W.heap.size W W') : MssAt W' q l := by
  rcases h with rfl | ⟨b, o, rfl, hlt, hc⟩
  · exact .inl rfl
  · refine .inr ⟨b, o, rfl, Nat.lt_of_lt_of_le hlt hb.size, fun j q hq => ?_⟩
    rw [hb.cell (p := ⟨b, o + j * 5, none⟩) hlt, hb.cell (p := ⟨b, o + j * 5 + 1, none⟩) hlt, hb.cell (p := ⟨b, o + j * 5 + 2, none⟩) hlt, hb.cell (p := ⟨b, o + j * 5 + 3, none⟩) hlt, hb.cell (p := ⟨b, o + j * 5 + 4, none⟩) hlt]
    exact hc j q hq
def ttL (B k : Nat) (v0 v1 v2 : Value) (a b : Int) : List (Nat × Nat × Value) := [(k, 0, .int .i64 a), (k, 1, .int .i64 b), (B + 1, 0, .int .i64 0), (B + 1, 1, .int .i64 0), (B, 0, v0), (B, 1, v1), (B, 2, v2)]
theorem ttL_set {W : World} {B k : Nat} {v0 v1 v2 : Value} {a b a' b' : Int} (h : Cs W (ttL B k v0 v1 v2 a b)) (h1 : k ≠ B + 1) (h2 : k ≠ B) :
    Cs ((W.setCell ⟨k, 0, none⟩ (.int .i64 a')).setCell ⟨k, 1, none⟩ (.int .i64 b')) (ttL B k v0 v1 v2 a' b') := by
  have := (h.upd (b := k) (o := 0) (u := .int .i64 a')).upd (b := k) (o := 1) (u := .int .i64 b')
  have e1 : ¬ B + 1 = k := fun e => h1 e.symm
  have e2 : ¬ B = k := fun e => h2 e.symm
  simpa [ttL, e1, e2] using this
set_option maxRecDepth 100000 in
set_option maxHeartbeats 6400000 in
theorem Total_any (x : WA) (q : Option Addr) (cap : Nat) (l : List Ms) (w : World) (h : x.At w) (hl : l.length ≤ 140737488355327) (hm : MssAt w q l) :
    Calls Tryz.prog 51 #[x.v, .slice q l.length cap] w fun e w' => e = .returned (.tuple #[spv (ttLo x l) (ttHi x l), .int .i64 (ttE x l)]) ∧ Below w.heap.size w w' := by
  have K1 := fun W (hb : Below w.heap.size w W) => Check_any x W (h.keep hb)
  have K20 := fun m W (hb : Below w.heap.size w W) => Distance_any x m W (h.keep hb)
  have H := Lib.hid hm
  obtain ⟨A, hA⟩ : ∃ A, ttLo x l = A := ⟨_, rfl⟩
  obtain ⟨B1, hB1⟩ : ∃ B, ttHi x l = B := ⟨_, rfl⟩
  obtain ⟨E, hE⟩ : ∃ E, ttE x l = E := ⟨_, rfl⟩
  rw [hA, hB1, hE]
  obtain ⟨k, hk⟩ : ∃ k, chk x = k := ⟨_, rfl⟩
  have HE1 : Hid (k ≠ 0 → E = k ∧ A = 0 ∧ B1 = 0) := fun e => by
    have e1 : ttE x l = k := by unfold ttE; rw [hk, if_pos e]
    exact ⟨by rw [← hE, e1], by rw [← hA, ttLo, e1, if_neg e], by rw [← hB1, ttHi, e1, if_neg e]⟩
  have HE2 : Hid (k = 0 → 100 < l.length → E = 2 ∧ A = 0 ∧ B1 = 0) := fun e e' => by
    have e1 : ttE x l = 2 := by unfold ttE; rw [hk, if_neg (by simpa using e), if_pos e']
    exact ⟨by rw [← hE, e1], by rw [← hA, ttLo, e1, if_neg (by decide)], by rw [← hB1, ttHi, e1, if_neg (by decide)]⟩
  have HE30 : Hid (k = 0 → l.length ≤ 100 → E = erF x l ∧ (erF x l = 0 → A = smLo x l ∧ B1 = smHi x l) ∧ (erF x l ≠ 0 → A = 0 ∧ B1 = 0)) := fun e e' => by
    have e1 : ttE x l = erF x l := by unfold ttE; rw [hk, if_neg (by simpa using e), if_neg (by omega)]
    refine ⟨by rw [← hE, e1], fun z => ⟨by rw [← hA, ttLo, e1, if_pos z], by rw [← hB1, ttHi, e1, if_pos z]⟩, fun z => ⟨by rw [← hA, ttLo, e1, if_neg z], by rw [← hB1, ttHi, e1, if_neg z]⟩⟩
  obtain ⟨X, hX⟩ : ∃ X, x = X := ⟨_, rfl⟩
  have HE3 : Hid (k = 0 → l.length ≤ 100 → E = erF X l ∧ (erF X l = 0 → A = smLo X l ∧ B1 = smHi X l) ∧ (erF X l ≠ 0 → A = 0 ∧ B1 = 0)) := by rw [← hX]; exact HE30
  have K2 : ∀ (m : Ms) W, Below w.heap.size w W → Calls Tryz.prog 49 #[x.v, m.v] W fun e w' => e = .returned (.tuple #[spv (dsLo X m) (dsHi X m), .int .i64 (dsE X m)]) ∧ Below W.heap.size W w' := by rw [← hX]; exact K20
  simp only [hk] at K1
  clear h hm hA hB1 hE hk hX HE30 K20
  obtain ⟨cs, ps, rs, q1, q2, q3, c1, c2, c3⟩ := x
  simp only [WA.v, Ms.v] at *
  go_enter Tryz.func51, Tryz.ntmps51
  go_upto_region 1 with fail
  obtain ⟨W0, hW0⟩ : ∃ W0, ((w).alloc (.cells #[.slice q1 cs.length c1, .slice q2 ps.length c2, .slice q3 rs.length c3] 26)).alloc (.cells #[.int .i64 0, .int .i64 0] 30) = W0 := ⟨_, rfl⟩
  have S0 : St w W0 [(w.heap.size + 1, 0, .int .i64 0), (w.heap.size + 1, 1, .int .i64 0), (w.heap.size, 0, .slice q1 cs.length c1), (w.heap.size, 1, .slice q2 ps.length c2), (w.heap.size, 2, .slice q3 rs.length c3)] := by rw [← hW0]; exact (((St.nil w)).box #[.slice q1 cs.length c1, .slice q2 ps.length c2, .slice q3 rs.length c3] 26 (w.heap.size) (by simp)).box #[.int .i64 0, .int .i64 0] 30 (w.heap.size + 1) (by simp)
  rw [hW0]
  clear hW0
  obtain ⟨C, hC0, HC, LC, BC, hne⟩ := cls S0
  haveI := hne
  obtain ⟨c0, rfl⟩ : ∃ n : Wd C, W0 = n.w := ⟨⟨_, hC0⟩, rfl⟩
  have fC0 : ∀ n : Wd C, n.w.cell? ⟨w.heap.size + 1, 0, none⟩ = some (.int .i64 0) := fun n => (LC.out n).1.2.1
  have zC0 : ∀ n : Wd C, n.w.frozen? ⟨w.heap.size + 1, 0, none⟩ = false := fun n => (LC.out n).1.2.2
  have fC1 : ∀ n : Wd C, n.w.cell? ⟨w.heap.size + 1, 1, none⟩ = some (.int .i64 0) := fun n => (LC.out n).2.1.2.1
  have zC1 : ∀ n : Wd C, n.w.frozen? ⟨w.heap.size + 1, 1, none⟩ = false := fun n => (LC.out n).2.1.2.2
  have fC2 : ∀ n : Wd C, n.w.cell? ⟨w.heap.size, 0, none⟩ = some (.slice q1 cs.length c1) := fun n => (LC.out n).2.2.1.2.1
  have zC2 : ∀ n : Wd C, n.w.frozen? ⟨w.heap.size, 0, none⟩ = false := fun n => (LC.out n).2.2.1.2.2
  have fC3 : ∀ n : Wd C, n.w.cell? ⟨w.heap.size, 1, none⟩ = some (.slice q2 ps.length c2) := fun n => (LC.out n).2.2.2.1.2.1
  have zC3 : ∀ n : Wd C, n.w.frozen? ⟨w.heap.size, 1, none⟩ = false := fun n => (LC.out n).2.2.2.1.2.2
  have fC4 : ∀ n : Wd C, n.w.cell? ⟨w.heap.size, 2, none⟩ = some (.slice q3 rs.length c3) := fun n => (LC.out n).2.2.2.2.1.2.1
  have zC4 : ∀ n : Wd C, n.w.frozen? ⟨w.heap.size, 2, none⟩ = false := fun n => (LC.out n).2.2.2.2.1.2.2
  clear S0 hC0
  have D1 := cinL HC BC K1
  clear K1
  by_cases hk0 : k = 0
  · subst hk0
    by_cases h100 : 100 < l.length
    · obtain ⟨rfl, rfl, rfl⟩ := HE2.out (by first | rfl | trivial) h100
      have h' : (100 : Int) < (l.length : Int) := by omega
      clear h100
      go_wp2_with (first | first | (go_at_call 23; with_reducible refine (D1 _).out.mono ?_; rintro e w' ⟨rfl, n, rfl⟩))
      refine bodyPost_ret (v := .tuple #[spv 0 0, .int .i64 2]) (by simp [results, Tryz.results51, go_sem, fC0, fC1]) rfl ⟨rfl, ?_⟩
      exact set2 (BC.out _) (by omega) _ _
    · have h' : ¬ (100 : Int) < (l.length : Int) := by omega
      obtain ⟨h0E, h3, h4⟩ := HE3.out (by first | rfl | trivial) (by omega)
      have HEE := Lib.hid h0E
      have HZ := Lib.hid h3
      have HN := Lib.hid h4
      clear HE1 HE2 HE3 h3 h4 h0E
      go_upto_region 6 with (first | first | (go_at_call 23; with_reducible refine (D1 _).out.mono ?_; rintro e w' ⟨rfl, n, rfl⟩))
      go_wp2_with fail
      obtain ⟨W0, hW0⟩ : ∃ W0, (n.w).alloc (.cells #[.int .i64 0, .int .i64 0] 30) = W0 := ⟨_, rfl⟩
      have S0 : St w W0 [(n.w.heap.size, 0, .int .i64 0), (n.w.heap.size, 1, .int .i64 0), (w.heap.size + 1, 0, .int .i64 0), (w.heap.size + 1, 1, .int .i64 0), (w.heap.size, 0, .slice q1 cs.length c1), (w.heap.size, 1, .slice q2 ps.length c2), (w.heap.size, 2, .slice q3 rs.length c3)] := by rw [← hW0]; exact ((⟨BC.out n, LC.out n⟩ : St w n.w _)).box #[.int .i64 0, .int .i64 0] 30 (n.w.heap.size) (by simp)
      rw [hW0]
      clear hW0
      obtain ⟨kD, hkk⟩ : ∃ k, n.w.heap.size = k := ⟨_, rfl⟩
      have gkD : w.heap.size ≤ kD := by rw [← hkk]; exact (BC.out n).size
      rw [hkk] at S0 ⊢
      have eD1 : kD ≠ w.heap.size + 1 := by have h := (LC.out n).1.1; omega
      have dD1 : w.heap.size + 1 ≠ kD := Ne.symm eD1
      have eD2 : kD ≠ w.heap.size := by have h := (LC.out n).2.2.1.1; omega
      have dD2 : w.heap.size ≠ kD := Ne.symm eD2
      clear hkk
      obtain ⟨D, hC0, HD, LD, BD, hne⟩ := cls S0
      haveI := hne
      obtain ⟨d0, rfl⟩ : ∃ n : Wd D, W0 = n.w := ⟨⟨_, hC0⟩, rfl⟩
      have fD0 : ∀ n : Wd D, n.w.cell? ⟨kD, 0, none⟩ = some (.int .i64 0) := fun n => (LD.out n).1.2.1
      have zD0 : ∀ n : Wd D, n.w.frozen? ⟨kD, 0, none⟩ = false := fun n => (LD.out n).1.2.2
      have fD1 : ∀ n : Wd D, n.w.cell? ⟨kD, 1, none⟩ = some (.int .i64 0) := fun n => (LD.out n).2.1.2.1
      have zD1 : ∀ n : Wd D, n.w.frozen? ⟨kD, 1, none⟩ = false := fun n => (LD.out n).2.1.2.2
      have fD2 : ∀ n : Wd D, n.w.cell? ⟨w.heap.size + 1, 0, none⟩ = some (.int .i64 0) := fun n => (LD.out n).2.2.1.2.1
      have zD2 : ∀ n : Wd D, n.w.frozen? ⟨w.heap.size + 1, 0, none⟩ = false := fun n => (LD.out n).2.2.1.2.2
      have fD3 : ∀ n : Wd D, n.w.cell? ⟨w.heap.size + 1, 1, none⟩ = some (.int .i64 0) := fun n => (LD.out n).2.2.2.1.2.1
      have zD3 : ∀ n : Wd D, n.w.frozen? ⟨w.heap.size + 1, 1, none⟩ = false := fun n => (LD.out n).2.2.2.1.2.2
      have fD4 : ∀ n : Wd D, n.w.cell? ⟨w.heap.size, 0, none⟩ = some (.slice q1 cs.length c1) := fun n => (LD.out n).2.2.2.2.1.2.1
      have zD4 : ∀ n : Wd D, n.w.frozen? ⟨w.heap.size, 0, none⟩ = false := fun n => (LD.out n).2.2.2.2.1.2.2
      have fD5 : ∀ n : Wd D, n.w.cell? ⟨w.heap.size, 1, none⟩ = some (.slice q2 ps.length c2) := fun n => (LD.out n).2.2.2.2.2.1.2.1
      have zD5 : ∀ n : Wd D, n.w.frozen? ⟨w.heap.size, 1, none⟩ = false := fun n => (LD.out n).2.2.2.2.2.1.2.2
      have fD6 : ∀ n : Wd D, n.w.cell? ⟨w.heap.size, 2, none⟩ = some (.slice q3 rs.length c3) := fun n => (LD.out n).2.2.2.2.2.2.1.2.1
      have zD6 : ∀ n : Wd D, n.w.frozen? ⟨w.heap.size, 2, none⟩ = false := fun n => (LD.out n).2.2.2.2.2.2.1.2.2
      clear S0 hC0
      have S1 : St w d0.w (ttL w.heap.size kD (.slice q1 cs.length c1) (.slice q2 ps.length c2) (.slice q3 rs.length c3) (smLo X (l.take 0)) (smHi X (l.take 0))) := ⟨BD.out d0, LD.out d0⟩
      obtain ⟨w0, hw0⟩ : ∃ w0, d0.w = w0 := ⟨_, rfl⟩
      rw [hw0] at S1 ⊢
      clear hw0 fD0 fD1 fD2 fD3 fD4 fD5 fD6 zD0 zD1 zD2 zD3 zD4 zD5 zD6 LD BD HD hne d0 fC0 fC1 fC2 fC3 fC4 zC0 zC1 zC2 zC3 zC4 D1 HC n
      go_upto_region 8 with fail
      go_loopw [24] (fun i wr => ∃ (k : Nat), St w wr (ttL w.heap.size kD (.slice q1 cs.length c1) (.slice q2 ps.length c2) (.slice q3 rs.length c3) (smLo X (l.take k)) (smHi X (l.take k))) ∧ i = .int .i64 (k : Int) ∧ k ≤ l.length ∧ erF X (l.take k) = 0) (fun i wr => l.length - (intOf i).toNat)
      case atStart => exact ⟨0, S1, rfl, Nat.zero_le _, rfl⟩
      case round =>
        clear S1
        obtain ⟨k, hS, rfl, hk, her⟩ := hrel
        have HER := Lib.hid her
        clear her
        by_cases hlt : k < l.length
        · rcases H.out with h0 | ⟨b, o, rfl, hb, hc⟩
          · exact absurd hlt (by simp [show l = [] from h0])
          obtain ⟨d1, d2, d3, d4, d5⟩ := hc k l[k] (List.getElem?_eq_getElem hlt)
          have b1 := (hS.b.cell (p := ⟨b, o + k * 5, none⟩) hb).trans d1
          have b2 := (hS.b.cell (p := ⟨b, o + k * 5 + 1, none⟩) hb).trans d2
          have b3 := (hS.b.cell (p := ⟨b, o + k * 5 + 2, none⟩) hb).trans d3
          have b4 := (hS.b.cell (p := ⟨b, o + k * 5 + 3, none⟩) hb).trans d4
          have b5 := (hS.b.cell (p := ⟨b, o + k * 5 + 4, none⟩) hb).trans d5
          have hsn : smLo X (l.take (k + 1)) = smLo X (l.take k) + dsLo X l[k] ∧ smHi X (l.take (k + 1)) = smHi X (l.take k) + dsHi X l[k] ∧ erF X (l.take (k + 1)) = dsE X l[k] := by
            rw [take_snocG l k hlt, smLo_app, smHi_app, erF_app, HER.out]
            refine ⟨by simp [smLo], by simp [smHi], ?_⟩
            rw [if_pos rfl]
            unfold erF erF
            split
            · rename_i e; exact e.symm
            · rfl
          have hall : dsE X l[k] ≠ 0 → erF X l = dsE X l[k] := fun e => by
            have h1 : erF X l = erF X (l.take (k + 1) ++ l.drop (k + 1)) := congrArg (erF X) (List.take_append_drop _ _).symm
            rw [h1, erF_app, hsn.2.2, if_neg e]
          have hbd := sm_bd X (l.take k)
          have hbd2 := ds_bd X l[k]
          have hln : (l.take k).length = k := by rw [List.length_take]; omega
          rw [hln] at hbd
          obtain ⟨m, hm⟩ : ∃ m, l[k] = m := ⟨_, rfl⟩
          simp only [show l[k] = m from hm] at b1 b2 b3 b4 b5 hsn hall hbd2
          obtain ⟨a, ha⟩ : ∃ a, smLo X (l.take k) = a := ⟨_, rfl⟩
          obtain ⟨a2, ha2⟩ : ∃ a, smHi X (l.take k) = a := ⟨_, rfl⟩
          rw [ha] at hS hbd hsn
          rw [ha2] at hS hbd hsn
          have KM := K2 m
          obtain ⟨p, hp⟩ : ∃ p, dsLo X m = p := ⟨_, rfl⟩
          obtain ⟨p2, hp2⟩ : ∃ p, dsHi X m = p := ⟨_, rfl⟩
          obtain ⟨g, hg⟩ : ∃ p, dsE X m = p := ⟨_, rfl⟩
          simp only [hp, hp2, hg] at KM hsn hall hbd2
          obtain ⟨m1, m2, m3, m4, m5⟩ := m
          simp only at b1 b2 b3 b4 b5 KM
          have hw1 : wrap64 (a + p) = a + p := w64 (by omega)
          have hw2 : wrap64 (a2 + p2) = a2 + p2 := w64 (by omega)
          have HSN := Lib.hid hsn
          have HALL := Lib.hid hall
          have hlt' : (k : Int) < (l.length : Int) := by omega
          clear d1 d2 d3 d4 d5 hc hb hm ha ha2 hp hp2 hg hbd hbd2 hsn hall hln
          obtain ⟨F, hC0, HF, LF, BF, hne⟩ := cls hS
          haveI := hne
          obtain ⟨f0, rfl⟩ : ∃ n : Wd F, wr = n.w := ⟨⟨_, hC0⟩, rfl⟩
          have fF0 : ∀ n : Wd F, n.w.cell? ⟨kD, 0, none⟩ = some (.int .i64 a) := fun n => (LF.out n).1.2.1
          have fF1 : ∀ n : Wd F, n.w.cell? ⟨kD, 1, none⟩ = some (.int .i64 a2) := fun n => (LF.out n).2.1.2.1
          have fF2 : ∀ n : Wd F, n.w.cell? ⟨w.heap.size + 1, 0, none⟩ = some (.int .i64 0) := fun n => (LF.out n).2.2.1.2.1
          have zF2 : ∀ n : Wd F, n.w.frozen? ⟨w.heap.size + 1, 0, none⟩ = false := fun n => (LF.out n).2.2.1.2.2
          have fF3 : ∀ n : Wd F, n.w.cell? ⟨w.heap.size + 1, 1, none⟩ = some (.int .i64 0) := fun n => (LF.out n).2.2.2.1.2.1
          have zF3 : ∀ n : Wd F, n.w.frozen? ⟨w.heap.size + 1, 1, none⟩ = false := fun n => (LF.out n).2.2.2.1.2.2
          have fF4 : ∀ n : Wd F, n.w.cell? ⟨w.heap.size, 0, none⟩ = some (.slice q1 cs.length c1) := fun n => (LF.out n).2.2.2.2.1.2.1
          have zF4 : ∀ n : Wd F, n.w.frozen? ⟨w.heap.size, 0, none⟩ = false := fun n => (LF.out n).2.2.2.2.1.2.2
          have fF5 : ∀ n : Wd F, n.w.cell? ⟨w.heap.size, 1, none⟩ = some (.slice q2 ps.length c2) := fun n => (LF.out n).2.2.2.2.2.1.2.1
          have zF5 : ∀ n : Wd F, n.w.frozen? ⟨w.heap.size, 1, none⟩ = false := fun n => (LF.out n).2.2.2.2.2.1.2.2
          have fF6 : ∀ n : Wd F, n.w.cell? ⟨w.heap.size, 2, none⟩ = some (.slice q3 rs.length c3) := fun n => (LF.out n).2.2.2.2.2.2.1.2.1
          have zF6 : ∀ n : Wd F, n.w.frozen? ⟨w.heap.size, 2, none⟩ = false := fun n => (LF.out n).2.2.2.2.2.2.1.2.2
          clear hS hC0
          have zF0 : ∀ n : Wd F, n.w.frozen? ⟨kD, 0, none⟩ = false := fun n => (LF.out n).1.2.2
          have zF1 : ∀ n : Wd F, n.w.frozen? ⟨kD, 1, none⟩ = false := fun n => (LF.out n).2.1.2.2
          go_upto_region 10 with fail
          obtain ⟨W0, hW0⟩ : ∃ W0, (f0.w).alloc (.cells #[.int .i64 (m1), .int .i64 (m2), .int .i64 (m3), .int .i64 (m4), .int .i64 (m5)] 73) = W0 := ⟨_, rfl⟩
          have S0 : St w W0 [(f0.w.heap.size, 0, .int .i64 (m1)), (f0.w.heap.size, 1, .int .i64 (m2)), (f0.w.heap.size, 2, .int .i64 (m3)), (f0.w.heap.size, 3, .int .i64 (m4)), (f0.w.heap.size, 4, .int .i64 (m5)), (kD, 0, .int .i64 a), (kD, 1, .int .i64 a2), (w.heap.size + 1, 0, .int .i64 0), (w.heap.size + 1, 1, .int .i64 0), (w.heap.size, 0, .slice q1 cs.length c1), (w.heap.size, 1, .slice q2 ps.length c2), (w.heap.size, 2, .slice q3 rs.length c3)] := by rw [← hW0]; exact ((⟨BF.out f0, LF.out f0⟩ : St w f0.w _)).box #[.int .i64 (m1), .int .i64 (m2), .int .i64 (m3), .int .i64 (m4), .int .i64 (m5)] 73 (f0.w.heap.size) (by simp)
          rw [hW0]
          clear hW0
          obtain ⟨kG, hkk⟩ : ∃ k, f0.w.heap.size = k := ⟨_, rfl⟩
          have gkG : w.heap.size ≤ kG := by rw [← hkk]; exact (BF.out f0).size
          rw [hkk] at S0 ⊢
          have eG1 : kG ≠ w.heap.size + 1 := by have h := (LF.out f0).2.2.1.1; omega
          have dG1 : w.heap.size + 1 ≠ kG := Ne.symm eG1
          have eG2 : kG ≠ w.heap.size := by have h := (LF.out f0).2.2.2.2.1.1; omega
          have dG2 : w.heap.size ≠ kG := Ne.symm eG2
          clear hkk
          obtain ⟨G, hC0, HG, LG, BG, hne⟩ := cls S0
          haveI := hne
          obtain ⟨g0, rfl⟩ : ∃ n : Wd G, W0 = n.w := ⟨⟨_, hC0⟩, rfl⟩
          have fG0 : ∀ n : Wd G, n.w.cell? ⟨kG, 0, none⟩ = some (.int .i64 (m1)) := fun n => (LG.out n).1.2.1
          have fG1 : ∀ n : Wd G, n.w.cell? ⟨kG, 1, none⟩ = some (.int .i64 (m2)) := fun n => (LG.out n).2.1.2.1
          have fG2 : ∀ n : Wd G, n.w.cell? ⟨kG, 2, none⟩ = some (.int .i64 (m3)) := fun n => (LG.out n).2.2.1.2.1
          have fG3 : ∀ n : Wd G, n.w.cell? ⟨kG, 3, none⟩ = some (.int .i64 (m4)) := fun n => (LG.out n).2.2.2.1.2.1
          have fG4 : ∀ n : Wd G, n.w.cell? ⟨kG, 4, none⟩ = some (.int .i64 (m5)) := fun n => (LG.out n).2.2.2.2.1.2.1
          have fG5 : ∀ n : Wd G, n.w.cell? ⟨kD, 0, none⟩ = some (.int .i64 a) := fun n => (LG.out n).2.2.2.2.2.1.2.1
          have fG6 : ∀ n : Wd G, n.w.cell? ⟨kD, 1, none⟩ = some (.int .i64 a2) := fun n => (LG.out n).2.2.2.2.2.2.1.2.1
          have fG7 : ∀ n : Wd G, n.w.cell? ⟨w.heap.size + 1, 0, none⟩ = some (.int .i64 0) := fun n => (LG.out n).2.2.2.2.2.2.2.1.2.1
          have zG7 : ∀ n : Wd G, n.w.frozen? ⟨w.heap.size + 1, 0, none⟩ = false := fun n => (LG.out n).2.2.2.2.2.2.2.1.2.2
          have fG8 : ∀ n : Wd G, n.w.cell? ⟨w.heap.size + 1, 1, none⟩ = some (.int .i64 0) := fun n => (LG.out n).2.2.2.2.2.2.2.2.1.2.1
          have zG8 : ∀ n : Wd G, n.w.frozen? ⟨w.heap.size + 1, 1, none⟩ = false := fun n => (LG.out n).2.2.2.2.2.2.2.2.1.2.2
          have fG9 : ∀ n : Wd G, n.w.cell? ⟨w.heap.size, 0, none⟩ = some (.slice q1 cs.length c1) := fun n => (LG.out n).2.2.2.2.2.2.2.2.2.1.2.1
          have zG9 : ∀ n : Wd G, n.w.frozen? ⟨w.heap.size, 0, none⟩ = false := fun n => (LG.out n).2.2.2.2.2.2.2.2.2.1.2.2
          have fG10 : ∀ n : Wd G, n.w.cell? ⟨w.heap.size, 1, none⟩ = some (.slice q2 ps.length c2) := fun n => (LG.out n).2.2.2.2.2.2.2.2.2.2.1.2.1
          have zG10 : ∀ n : Wd G, n.w.frozen? ⟨w.heap.size, 1, none⟩ = false := fun n => (LG.out n).2.2.2.2.2.2.2.2.2.2.1.2.2
          have fG11 : ∀ n : Wd G, n.w.cell? ⟨w.heap.size, 2, none⟩ = some (.slice q3 rs.length c3) := fun n => (LG.out n).2.2.2.2.2.2.2.2.2.2.2.1.2.1
          have zG11 : ∀ n : Wd G, n.w.frozen? ⟨w.heap.size, 2, none⟩ = false := fun n => (LG.out n).2.2.2.2.2.2.2.2.2.2.2.1.2.2
          clear S0 hC0
          have D2 := cinL HG BG KM
          clear KM
          go_upto_region 11 with (first | first | (go_at_call 49; with_reducible refine (D2 _).out.mono ?_; rintro e w' ⟨rfl, n, rfl⟩))
          have hkn : ¬ kD = n.w.heap.size := by have := (LG.out n).2.2.2.2.2.1.1; omega
          by_cases hg0 : g = 0
          · subst hg0
            clear HALL
            obtain ⟨W0, hW0⟩ : ∃ W0, (n.w).alloc (.cells #[.int .i64 (p), .int .i64 (p2)] 30) = W0 := ⟨_, rfl⟩
            have S0 : St w W0 [(n.w.heap.size, 0, .int .i64 (p)), (n.w.heap.size, 1, .int .i64 (p2)), (kG, 0, .int .i64 (m1)), (kG, 1, .int .i64 (m2)), (kG, 2, .int .i64 (m3)), (kG, 3, .int .i64 (m4)), (kG, 4, .int .i64 (m5)), (kD, 0, .int .i64 a), (kD, 1, .int .i64 a2), (w.heap.size + 1, 0, .int .i64 0), (w.heap.size + 1, 1, .int .i64 0), (w.heap.size, 0, .slice q1 cs.length c1), (w.heap.size, 1, .slice q2 ps.length c2), (w.heap.size, 2, .slice q3 rs.length c3)] := by rw [← hW0]; exact ((⟨BG.out n, LG.out n⟩ : St w n.w _)).box #[.int .i64 (p), .int .i64 (p2)] 30 (n.w.heap.size) (by simp)
            rw [hW0]
            clear hW0
            obtain ⟨kJ, hkk⟩ : ∃ k, n.w.heap.size = k := ⟨_, rfl⟩
            have gkJ : w.heap.size ≤ kJ := by rw [← hkk]; exact (BG.out n).size
            rw [hkk] at S0 ⊢
            have eJ1 : kJ ≠ w.heap.size + 1 := by have h := (LG.out n).2.2.2.2.2.2.2.1.1; omega
            have dJ1 : w.heap.size + 1 ≠ kJ := Ne.symm eJ1
            have eJ2 : kJ ≠ w.heap.size := by have h := (LG.out n).2.2.2.2.2.2.2.2.2.1.1; omega
            have dJ2 : w.heap.size ≠ kJ := Ne.symm eJ2
            clear hkk
            obtain ⟨J, hC0, HJ, LJ, BJ, hne⟩ := cls S0
            haveI := hne
            obtain ⟨j0, rfl⟩ : ∃ n : Wd J, W0 = n.w := ⟨⟨_, hC0⟩, rfl⟩
            have fJ0 : ∀ n : Wd J, n.w.cell? ⟨kJ, 0, none⟩ = some (.int .i64 (p)) := fun n => (LJ.out n).1.2.1
            have fJ1 : ∀ n : Wd J, n.w.cell? ⟨kJ, 1, none⟩ = some (.int .i64 (p2)) := fun n => (LJ.out n).2.1.2.1
            have fJ2 : ∀ n : Wd J, n.w.cell? ⟨kG, 0, none⟩ = some (.int .i64 (m1)) := fun n => (LJ.out n).2.2.1.2.1
            have fJ3 : ∀ n : Wd J, n.w.cell? ⟨kG, 1, none⟩ = some (.int .i64 (m2)) := fun n => (LJ.out n).2.2.2.1.2.1
            have fJ4 : ∀ n : Wd J, n.w.cell? ⟨kG, 2, none⟩ = some (.int .i64 (m3)) := fun n => (LJ.out n).2.2.2.2.1.2.1
            have fJ5 : ∀ n : Wd J, n.w.cell? ⟨kG, 3, none⟩ = some (.int .i64 (m4)) := fun n => (LJ.out n).2.2.2.2.2.1.2.1
            have fJ6 : ∀ n : Wd J, n.w.cell? ⟨kG, 4, none⟩ = some (.int .i64 (m5)) := fun n => (LJ.out n).2.2.2.2.2.2.1.2.1
            have fJ7 : ∀ n : Wd J, n.w.cell? ⟨kD, 0, none⟩ = some (.int .i64 a) := fun n => (LJ.out n).2.2.2.2.2.2.2.1.2.1
            have fJ8 : ∀ n : Wd J, n.w.cell? ⟨kD, 1, none⟩ = some (.int .i64 a2) := fun n => (LJ.out n).2.2.2.2.2.2.2.2.1.2.1
            have fJ9 : ∀ n : Wd J, n.w.cell? ⟨w.heap.size + 1, 0, none⟩ = some (.int .i64 0) := fun n => (LJ.out n).2.2.2.2.2.2.2.2.2.1.2.1
            have zJ9 : ∀ n : Wd J, n.w.frozen? ⟨w.heap.size + 1, 0, none⟩ = false := fun n => (LJ.out n).2.2.2.2.2.2.2.2.2.1.2.2
            have fJ10 : ∀ n : Wd J, n.w.cell? ⟨w.heap.size + 1, 1, none⟩ = some (.int .i64 0) := fun n => (LJ.out n).2.2.2.2.2.2.2.2.2.2.1.2.1
            have zJ10 : ∀ n : Wd J, n.w.frozen? ⟨w.heap.size + 1, 1, none⟩ = false := fun n => (LJ.out n).2.2.2.2.2.2.2.2.2.2.1.2.2
            have fJ11 : ∀ n : Wd J, n.w.cell? ⟨w.heap.size, 0, none⟩ = some (.slice q1 cs.length c1) := fun n => (LJ.out n).2.2.2.2.2.2.2.2.2.2.2.1.2.1
            have zJ11 : ∀ n : Wd J, n.w.frozen? ⟨w.heap.size, 0, none⟩ = false := fun n => (LJ.out n).2.2.2.2.2.2.2.2.2.2.2.1.2.2
            have fJ12 : ∀ n : Wd J, n.w.cell? ⟨w.heap.size, 1, none⟩ = some (.slice q2 ps.length c2) := fun n => (LJ.out n).2.2.2.2.2.2.2.2.2.2.2.2.1.2.1
            have zJ12 : ∀ n : Wd J, n.w.frozen? ⟨w.heap.size, 1, none⟩ = false := fun n => (LJ.out n).2.2.2.2.2.2.2.2.2.2.2.2.1.2.2
            have fJ13 : ∀ n : Wd J, n.w.cell? ⟨w.heap.size, 2, none⟩ = some (.slice q3 rs.length c3) := fun n => (LJ.out n).2.2.2.2.2.2.2.2.2.2.2.2.2.1.2.1
            have zJ13 : ∀ n : Wd J, n.w.frozen? ⟨w.heap.size, 2, none⟩ = false := fun n => (LJ.out n).2.2.2.2.2.2.2.2.2.2.2.2.2.1.2.2
            clear S0 hC0
            have zJ0 : ∀ n : Wd J, n.w.frozen? ⟨kD, 0, none⟩ = false := fun n => (LJ.out n).2.2.2.2.2.2.2.1.2.2
            have zJ1 : ∀ n : Wd J, n.w.frozen? ⟨kD, 1, none⟩ = false := fun n => (LJ.out n).2.2.2.2.2.2.2.2.1.2.2
            have hc : Cs j0.w (ttL w.heap.size kD (.slice q1 cs.length c1) (.slice q2 ps.length c2) (.slice q3 rs.length c3) a a2) := (LJ.out j0).2.2.2.2.2.2.2
            have HC9 := Lib.hid hc
            clear hc D2
            go_wp2_with fail
            go_roundw
            case rel => exact ⟨k + 1, by rw [HSN.out.1, HSN.out.2.1]; exact ⟨below_grownB (BJ.out j0) gkD (grown_trans (set_grown _ _ _ _) (set_grown _ _ _ _)), ttL_set HC9.out eD1 eD2⟩, by simp, hlt, HSN.out.2.2⟩
            case measure => simp [intOf]; omega
          · have hgb : (g != 0) = true := by simpa using hg0
            have he := HALL.out hg0
            obtain ⟨rfl, rfl⟩ := HN.out (by rw [he]; exact hg0)
            obtain rfl : g = E := by rw [HEE.out, he]
            clear HALL he D2
            obtain ⟨W0, hW0⟩ : ∃ W0, (n.w).alloc (.cells #[.int .i64 (p), .int .i64 (p2)] 30) = W0 := ⟨_, rfl⟩
            have S0 : St w W0 [(n.w.heap.size, 0, .int .i64 (p)), (n.w.heap.size, 1, .int .i64 (p2)), (kG, 0, .int .i64 (m1)), (kG, 1, .int .i64 (m2)), (kG, 2, .int .i64 (m3)), (kG, 3, .int .i64 (m4)), (kG, 4, .int .i64 (m5)), (kD, 0, .int .i64 a), (kD, 1, .int .i64 a2), (w.heap.size + 1, 0, .int .i64 0), (w.heap.size + 1, 1, .int .i64 0), (w.heap.size, 0, .slice q1 cs.length c1), (w.heap.size, 1, .slice q2 ps.length c2), (w.heap.size, 2, .slice q3 rs.length c3)] := by rw [← hW0]; exact ((⟨BG.out n, LG.out n⟩ : St w n.w _)).box #[.int .i64 (p), .int .i64 (p2)] 30 (n.w.heap.size) (by simp)
            rw [hW0]
            clear hW0
            obtain ⟨kM, hkk⟩ : ∃ k, n.w.heap.size = k := ⟨_, rfl⟩
            have gkM : w.heap.size ≤ kM := by rw [← hkk]; exact (BG.out n).size
            rw [hkk] at S0 ⊢
            have eM1 : kM ≠ w.heap.size + 1 := by have h := (LG.out n).2.2.2.2.2.2.2.1.1; omega
            have dM1 : w.heap.size + 1 ≠ kM := Ne.symm eM1
            have eM2 : kM ≠ w.heap.size := by have h := (LG.out n).2.2.2.2.2.2.2.2.2.1.1; omega
            have dM2 : w.heap.size ≠ kM := Ne.symm eM2
            clear hkk
            obtain ⟨M, hC0, HM, LM, BM, hne⟩ := cls S0
            haveI := hne
            obtain ⟨m0, rfl⟩ : ∃ n : Wd M, W0 = n.w := ⟨⟨_, hC0⟩, rfl⟩
            have fM0 : ∀ n : Wd M, n.w.cell? ⟨kM, 0, none⟩ = some (.int .i64 (p)) := fun n => (LM.out n).1.2.1
            have fM1 : ∀ n : Wd M, n.w.cell? ⟨kM, 1, none⟩ = some (.int .i64 (p2)) := fun n => (LM.out n).2.1.2.1
            have fM2 : ∀ n : Wd M, n.w.cell? ⟨kG, 0, none⟩ = some (.int .i64 (m1)) := fun n => (LM.out n).2.2.1.2.1
            have fM3 : ∀ n : Wd M, n.w.cell? ⟨kG, 1, none⟩ = some (.int .i64 (m2)) := fun n => (LM.out n).2.2.2.1.2.1
            have fM4 : ∀ n : Wd M, n.w.cell? ⟨kG, 2, none⟩ = some (.int .i64 (m3)) := fun n => (LM.out n).2.2.2.2.1.2.1
            have fM5 : ∀ n : Wd M, n.w.cell? ⟨kG, 3, none⟩ = some (.int .i64 (m4)) := fun n => (LM.out n).2.2.2.2.2.1.2.1
            have fM6 : ∀ n : Wd M, n.w.cell? ⟨kG, 4, none⟩ = some (.int .i64 (m5)) := fun n => (LM.out n).2.2.2.2.2.2.1.2.1
            have fM7 : ∀ n : Wd M, n.w.cell? ⟨kD, 0, none⟩ = some (.int .i64 a) := fun n => (LM.out n).2.2.2.2.2.2.2.1.2.1
            have fM8 : ∀ n : Wd M, n.w.cell? ⟨kD, 1, none⟩ = some (.int .i64 a2) := fun n => (LM.out n).2.2.2.2.2.2.2.2.1.2.1
            have fM9 : ∀ n : Wd M, n.w.cell? ⟨w.heap.size + 1, 0, none⟩ = some (.int .i64 0) := fun n => (LM.out n).2.2.2.2.2.2.2.2.2.1.2.1
            have zM9 : ∀ n : Wd M, n.w.frozen? ⟨w.heap.size + 1, 0, none⟩ = false := fun n => (LM.out n).2.2.2.2.2.2.2.2.2.1.2.2
            have fM10 : ∀ n : Wd M, n.w.cell? ⟨w.heap.size + 1, 1, none⟩ = some (.int .i64 0) := fun n => (LM.out n).2.2.2.2.2.2.2.2.2.2.1.2.1
            have zM10 : ∀ n : Wd M, n.w.frozen? ⟨w.heap.size + 1, 1, none⟩ = false := fun n => (LM.out n).2.2.2.2.2.2.2.2.2.2.1.2.2
            have fM11 : ∀ n : Wd M, n.w.cell? ⟨w.heap.size, 0, none⟩ = some (.slice q1 cs.length c1) := fun n => (LM.out n).2.2.2.2.2.2.2.2.2.2.2.1.2.1
            have zM11 : ∀ n : Wd M, n.w.frozen? ⟨w.heap.size, 0, none⟩ = false := fun n => (LM.out n).2.2.2.2.2.2.2.2.2.2.2.1.2.2
            have fM12 : ∀ n : Wd M, n.w.cell? ⟨w.heap.size, 1, none⟩ = some (.slice q2 ps.length c2) := fun n => (LM.out n).2.2.2.2.2.2.2.2.2.2.2.2.1.2.1
            have zM12 : ∀ n : Wd M, n.w.frozen? ⟨w.heap.size, 1, none⟩ = false := fun n => (LM.out n).2.2.2.2.2.2.2.2.2.2.2.2.1.2.2
            have fM13 : ∀ n : Wd M, n.w.cell? ⟨w.heap.size, 2, none⟩ = some (.slice q3 rs.length c3) := fun n => (LM.out n).2.2.2.2.2.2.2.2.2.2.2.2.2.1.2.1
            have zM13 : ∀ n : Wd M, n.w.frozen? ⟨w.heap.size, 2, none⟩ = false := fun n => (LM.out n).2.2.2.2.2.2.2.2.2.2.2.2.2.1.2.2
            clear S0 hC0
            have y0 : ∀ n : Wd M, n.w.frozen? ⟨w.heap.size + 1, 0, none⟩ = false := fun n => (LM.out n).2.2.2.2.2.2.2.2.2.1.2.2
            have y1 : ∀ n : Wd M, n.w.frozen? ⟨w.heap.size + 1, 1, none⟩ = false := fun n => (LM.out n).2.2.2.2.2.2.2.2.2.2.1.2.2
            have hs1 : w.heap.size + 1 < m0.w.heap.size := (LM.out m0).2.2.2.2.2.2.2.2.2.1.1
            clear hg0
            go_wp2_with fail
            refine bodyPost_ret (v := .tuple #[spv 0 0, .int .i64 g]) (by simp [results, Tryz.results51, go_sem, fM9, fM10]) rfl ⟨rfl, ?_⟩
            exact set2 (BM.out m0) (by omega) _ _
        · obtain rfl : k = l.length := by omega
          rw [List.take_length] at hS HER
          obtain ⟨hA, hB1⟩ := HZ.out HER.out
          obtain rfl : 0 = E := by rw [HEE.out, HER.out]
          obtain ⟨a, ha⟩ : ∃ a, smLo X l = a := ⟨_, rfl⟩
          obtain ⟨a2, ha2⟩ : ∃ a, smHi X l = a := ⟨_, rfl⟩
          rw [ha, ha2] at hS
          obtain rfl : a = A := by rw [hA, ha]
          obtain rfl : a2 = B1 := by rw [hB1, ha2]
          have HS := Lib.hid hS
          obtain ⟨⟨-, g0, -⟩, ⟨-, g1, -⟩, ⟨z0, e0, y0⟩, ⟨-, e1, y1⟩, -⟩ := hS.c
          clear hS ha ha2 HZ HN HER hA hB1
          go_wp2_with fail
          refine bodyPost_ret (v := .tuple #[spv a a2, .int .i64 0]) (by simp [results, Tryz.results51, go_sem, e0, e1]) rfl ⟨rfl, ?_⟩
          exact set2 HS.out.b (by omega) _ _
  · obtain ⟨rfl, rfl, rfl⟩ := HE1.out hk0
    have hb : (E != 0) = true := by simpa using hk0
    clear hk0
    go_wp2_with (first | first | (go_at_call 23; with_reducible refine (D1 _).out.mono ?_; rintro e w' ⟨rfl, n, rfl⟩))
    refine bodyPost_ret (v := .tuple #[spv 0 0, .int .i64 E]) (by simp [results, Tryz.results51, go_sem, fC0, fC1]) rfl ⟨rfl, ?_⟩
    exact set2 (BC.out _) (by omega) _ _
end Go.Proofs.YtcejmfgbfdhflaaGreat
