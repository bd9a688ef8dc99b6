import Derived.Test.YtdefpcjlbganpaaSides1
import Derived.WalkKit
import Derived.LoopTactic
import Derived.WalkSpells
import Derived.WalkLawsBesides
import Derived.Lib.Hide
import Derived.BigQuiet
import Derived.IntWalk
import Derived.Deep.DeepMust
import Derived.WalkSmall
import Derived.StillTailTactics
import Derived.Deep.RegionLaw
import Derived.Deep.RegionHeld3
import Derived.Deep.QuietTactic
import Derived.Deep.DeepCutAuto
import Derived.Laws.AppendOwn
import Derived.Deep.CutBlock
namespace Go.Proofs.Ytdefpcjlbganpaa
open Go.RowKit Go.BigFrame
attribute [local go_sem] World.cell?_alloc_some
/-- Does a point lie so? -/
def anyW (l ps : List Pt) (v : Int) : Bool := ps.any fun p => decide (whr l p = v)
def bI (c : Bool) (v : Int) : Int := if c then v else 0
theorem anyW_snoc (l ps : List Pt) (p : Pt) (v : Int) : anyW l (ps ++ [p]) v = (anyW l ps v || decide (whr l p = v)) := by simp [anyW]
theorem whr_cases (l : List Pt) (p : Pt) : whr l p = -1 ∨ whr l p = 0 ∨ whr l p = 1 := by
  unfold whr
  split
  · exact .inr (.inl rfl)
  · split
    · exact .inl rfl
    · exact .inr (.inr rfl)
theorem or_step (a b c : Bool) (w : Int) (hw : w = -1 ∨ w = 0 ∨ w = 1) : bits .or .i64 (bI a 1 + bI b 2 + bI c 4) (sdSg w) = bI (a || decide (w = -1)) 1 + bI (b || decide (w = 0)) 2 + bI (c || decide (w = 1)) 4 := by
  rcases hw with rfl | rfl | rfl <;> cases a <;> cases b <;> cases c <;> decide +kernel
theorem snocs {α : Type} {P : List α → Prop} (h0 : P []) (h1 : ∀ l a, P l → P (l ++ [a])) : ∀ l, P l := by
  intro l
  have : ∀ n (l : List α), l.length = n → P l := by
    intro n
    induction n with
    | zero => intro l h; obtain rfl := List.length_eq_zero_iff.1 h; exact h0
    | succ n ih =>
      intro l h
      have hne : l ≠ [] := fun e => by rw [e] at h; cases h
      rw [← List.dropLast_concat_getLast hne]
      exact h1 _ _ (ih _ (by simp [h]))
  exact this _ l rfl
theorem sdFold_flags (l : List Pt) : ∀ ps, sdFold l ps = bI (anyW l ps (-1)) 1 + bI (anyW l ps 0) 2 + bI (anyW l ps 1) 4 := by
  refine snocs (by simp [sdFold, anyW, bI]) fun ps p ih => ?_
  rw [sdFold_snoc, ih, or_step _ _ _ _ (whr_cases l p), anyW_snoc, anyW_snoc, anyW_snoc]
set_option maxHeartbeats 1000000 in
theorem rProper_any (b : Bx) (w : World) :
   Calls Try.prog 54 #[b.v] w fun e w' => e = .returned (.bool (okB b)) ∧ Below w.heap.size w w' := by
  have C1 := fun W => rValid_any ⟨b.x.lo, b.y.lo⟩ W
  have C2 := fun W => rValid_any ⟨b.x.hi, b.y.hi⟩ W
  obtain ⟨u, hu⟩ : ∃ u, okP ⟨b.x.lo, b.y.lo⟩ = u := ⟨_, rfl⟩
  obtain ⟨v, hv⟩ : ∃ u, okP ⟨b.x.hi, b.y.hi⟩ = u := ⟨_, rfl⟩
  have HB : Hid (okB b = (u && v && decide (b.x.lo ≤ b.x.hi) && decide (b.y.lo ≤ b.y.hi))) := by
    unfold Hid
    rw [← hu, ← hv, okB, okS, okS, okP, okP]
    cases okC b.x.lo <;> cases okC b.x.hi <;> cases okC b.y.lo <;> cases okC b.y.hi <;> simp
  obtain ⟨r, hr⟩ : ∃ r, okB b = r := ⟨_, rfl⟩
  rw [hr] at HB ⊢
  simp only [hu] at C1
  simp only [hv] at C2
  clear hu hv hr
  go_enter Try.func54, Try.ntmps54
  go_wp2_with fail
  obtain ⟨W0, hW0⟩ : ∃ W0, (w).alloc (.cells #[.int .i64 b.x.lo, .int .i64 b.x.hi, .int .i64 b.y.lo, .int .i64 b.y.hi] 60) = W0 := ⟨_, rfl⟩
  have S0 : St w W0 [(w.heap.size, 0, .int .i64 b.x.lo), (w.heap.size, 1, .int .i64 b.x.hi), (w.heap.size, 2, .int .i64 b.y.lo), (w.heap.size, 3, .int .i64 b.y.hi)] := by rw [← hW0]; exact ((St.nil w)).box #[.int .i64 b.x.lo, .int .i64 b.x.hi, .int .i64 b.y.lo, .int .i64 b.y.hi] 60 (w.heap.size) (by simp)
  rw [hW0]
  clear hW0
  obtain ⟨C, hC0, HC, LC, BC, hne⟩ := cls S0
  haveI := hne
  obtain ⟨c0, rfl⟩ : ∃ n : Wd C, W0 = n.w := ⟨⟨_, hC0⟩, rfl⟩
  have fC0 : ∀ n : Wd C, n.w.cell? ⟨w.heap.size, 0, none⟩ = some (.int .i64 b.x.lo) := fun n => (LC.out n).1.2.1
  have fC1 : ∀ n : Wd C, n.w.cell? ⟨w.heap.size, 1, none⟩ = some (.int .i64 b.x.hi) := fun n => (LC.out n).2.1.2.1
  have fC2 : ∀ n : Wd C, n.w.cell? ⟨w.heap.size, 2, none⟩ = some (.int .i64 b.y.lo) := fun n => (LC.out n).2.2.1.2.1
  have fC3 : ∀ n : Wd C, n.w.cell? ⟨w.heap.size, 3, none⟩ = some (.int .i64 b.y.hi) := fun n => (LC.out n).2.2.2.1.2.1
  clear S0 hC0
  have D1 := cin HC C1
  have D2 := cin HC C2
  clear C1 C2
  cases u
  · go_wp2_with (first | (go_at_call 18; with_reducible refine (D1 _).out.mono ?_; rintro e w' ⟨rfl, n, rfl⟩) | (go_at_call 18; with_reducible refine (D2 _).out.mono ?_; rintro e w' ⟨rfl, n, rfl⟩))
    go_ret
    exact ⟨ret_bool (by rw [HB.out]; rfl), BC.out _⟩
  · cases v
    · go_wp2_with (first | (go_at_call 18; with_reducible refine (D1 _).out.mono ?_; rintro e w' ⟨rfl, n, rfl⟩) | (go_at_call 18; with_reducible refine (D2 _).out.mono ?_; rintro e w' ⟨rfl, n, rfl⟩))
      go_ret
      exact ⟨ret_bool (by rw [HB.out]; rfl), BC.out _⟩
    · go_wp2_with (first | (go_at_call 18; with_reducible refine (D1 _).out.mono ?_; rintro e w' ⟨rfl, n, rfl⟩) | (go_at_call 18; with_reducible refine (D2 _).out.mono ?_; rintro e w' ⟨rfl, n, rfl⟩))
      all_goals
        go_ret
        refine ⟨ret_bool ?_, BC.out _⟩
        rw [HB.out, Bool.eq_iff_iff]
        simp
        omega
set_option maxRecDepth 100000 in
set_option maxHeartbeats 16000000 in
theorem rSides_any (q : Option Addr) (cap : Nat) (l : List Pt) (b : Bx) (w : World) (hl : l.length ≤ 140737488355327) (hp : PtsAt w q l) :
    Calls Try.prog 66 #[.slice q l.length cap, b.v] w fun e w' => e = .returned (sdRes l b) ∧ Below w.heap.size w w' := by
  have HP := Lib.hid hp
  obtain ⟨R, hR⟩ : ∃ R, sdRes l b = R := ⟨_, rfl⟩
  rw [hR]
  have C0 := fun W (hb : Below w.heap.size w W) => rpoints3 q cap l W hl (HP.out.keep hb)
  obtain ⟨c, hc⟩ : ∃ c, ck 3 l = c := ⟨_, rfl⟩
  rw [hc] at C0
  by_cases h0 : c = 0
  · subst h0
    obtain ⟨h3, h200, hall⟩ := ck_len hc
    have C1 := fun W => rProper_any b W
    cases hz : okB b
    · rw [hz] at C1
      have HR : Hid (R = .tuple #[.int .i64 0, .int .i64 1]) := by unfold Hid; rw [← hR, sdRes, if_pos hc, hz]; simp
      rw [HR.out]
      clear hR HR hc h3 h200 hall hp hz
      go_enter Try.func66, Try.ntmps66
      go_wp2_with fail
      obtain ⟨W0, hW0⟩ : ∃ W0, (w).alloc (.cells #[.int .i64 b.x.lo, .int .i64 b.x.hi, .int .i64 b.y.lo, .int .i64 b.y.hi] 60) = W0 := ⟨_, rfl⟩
      have S0 : St w W0 [(w.heap.size, 0, .int .i64 b.x.lo), (w.heap.size, 1, .int .i64 b.x.hi), (w.heap.size, 2, .int .i64 b.y.lo), (w.heap.size, 3, .int .i64 b.y.hi)] := by rw [← hW0]; exact ((St.nil w)).box #[.int .i64 b.x.lo, .int .i64 b.x.hi, .int .i64 b.y.lo, .int .i64 b.y.hi] 60 (w.heap.size) (by simp)
      rw [hW0]
      clear hW0
      obtain ⟨C, hC0, HC, LC, BC, hne⟩ := cls S0
      haveI := hne
      obtain ⟨c0, rfl⟩ : ∃ n : Wd C, W0 = n.w := ⟨⟨_, hC0⟩, rfl⟩
      have fC0 : ∀ n : Wd C, n.w.cell? ⟨w.heap.size, 0, none⟩ = some (.int .i64 b.x.lo) := fun n => (LC.out n).1.2.1
      have fC1 : ∀ n : Wd C, n.w.cell? ⟨w.heap.size, 1, none⟩ = some (.int .i64 b.x.hi) := fun n => (LC.out n).2.1.2.1
      have fC2 : ∀ n : Wd C, n.w.cell? ⟨w.heap.size, 2, none⟩ = some (.int .i64 b.y.lo) := fun n => (LC.out n).2.2.1.2.1
      have fC3 : ∀ n : Wd C, n.w.cell? ⟨w.heap.size, 3, none⟩ = some (.int .i64 b.y.hi) := fun n => (LC.out n).2.2.2.1.2.1
      clear S0 hC0
      have D0 := cinL HC BC C0
      have D1 := cin HC C1
      clear C0 C1
      go_wp2_with (first | (go_at_call 92; with_reducible refine (D0 _).out.mono ?_; rintro e w' ⟨rfl, n, rfl⟩) | (go_at_call 54; with_reducible refine (D1 _).out.mono ?_; rintro e w' ⟨rfl, n, rfl⟩))
      go_ret2
      exact ⟨rfl, BC.out _⟩
    · rw [hz] at C1
      have HCN := Lib.hid (cntB_sm hz)
      obtain ⟨k1, k2⟩ := okB_iff.1 hz
      have sx := okS_sm k1
      have sy := okS_sm k2
      have hu : wrap64 (b.x.hi - b.x.lo) = b.x.hi - b.x.lo := w64 (by omega)
      have hv : wrap64 (b.y.hi - b.y.lo) = b.y.hi - b.y.lo := w64 (by omega)
      have HS := Lib.hid (And.intro sx sy)
      clear sx sy k1 k2
      by_cases hcn : 4096 < cntB b
      · have HR : Hid (R = .tuple #[.int .i64 0, .int .i64 2]) := by unfold Hid; rw [← hR, sdRes, if_pos hc, hz, if_pos hcn]; simp
        rw [HR.out]
        have hgt : 4096 < wrap64 (wrap64 (b.x.hi - b.x.lo + 1) * wrap64 (b.y.hi - b.y.lo + 1)) := by rw [HCN.out]; exact hcn
        clear hR HR hc h3 h200 hall hp hz hcn HCN
        go_enter Try.func66, Try.ntmps66
        go_wp2_with fail
        obtain ⟨W0, hW0⟩ : ∃ W0, (w).alloc (.cells #[.int .i64 b.x.lo, .int .i64 b.x.hi, .int .i64 b.y.lo, .int .i64 b.y.hi] 60) = W0 := ⟨_, rfl⟩
        have S0 : St w W0 [(w.heap.size, 0, .int .i64 b.x.lo), (w.heap.size, 1, .int .i64 b.x.hi), (w.heap.size, 2, .int .i64 b.y.lo), (w.heap.size, 3, .int .i64 b.y.hi)] := by rw [← hW0]; exact ((St.nil w)).box #[.int .i64 b.x.lo, .int .i64 b.x.hi, .int .i64 b.y.lo, .int .i64 b.y.hi] 60 (w.heap.size) (by simp)
        rw [hW0]
        clear hW0
        obtain ⟨C, hC0, HC, LC, BC, hne⟩ := cls S0
        haveI := hne
        obtain ⟨c0, rfl⟩ : ∃ n : Wd C, W0 = n.w := ⟨⟨_, hC0⟩, rfl⟩
        have fC0 : ∀ n : Wd C, n.w.cell? ⟨w.heap.size, 0, none⟩ = some (.int .i64 b.x.lo) := fun n => (LC.out n).1.2.1
        have fC1 : ∀ n : Wd C, n.w.cell? ⟨w.heap.size, 1, none⟩ = some (.int .i64 b.x.hi) := fun n => (LC.out n).2.1.2.1
        have fC2 : ∀ n : Wd C, n.w.cell? ⟨w.heap.size, 2, none⟩ = some (.int .i64 b.y.lo) := fun n => (LC.out n).2.2.1.2.1
        have fC3 : ∀ n : Wd C, n.w.cell? ⟨w.heap.size, 3, none⟩ = some (.int .i64 b.y.hi) := fun n => (LC.out n).2.2.2.1.2.1
        clear S0 hC0
        have D0 := cinL HC BC C0
        have D1 := cin HC C1
        clear C0 C1
        go_wp2_with (first | (go_at_call 92; with_reducible refine (D0 _).out.mono ?_; rintro e w' ⟨rfl, n, rfl⟩) | (go_at_call 54; with_reducible refine (D1 _).out.mono ?_; rintro e w' ⟨rfl, n, rfl⟩))
        go_ret2
        exact ⟨rfl, BC.out _⟩
      · have hgt : ¬ 4096 < wrap64 (wrap64 (b.x.hi - b.x.lo + 1) * wrap64 (b.y.hi - b.y.lo + 1)) := by rw [HCN.out]; exact hcn
        have C4 := fun W (hb : Below w.heap.size w W) => rsimple_any q cap l W (by omega) h3 (HP.out.keep hb)
        cases hs : smp l
        · have HR : Hid (R = .tuple #[.int .i64 0, .int .i64 4]) := by unfold Hid; rw [← hR, sdRes, if_pos hc, hz, if_neg hcn, hs]; simp
          rw [HR.out]
          rw [hs] at C4
          clear hR HR hc h3 h200 hall hp hz hcn HCN hs
          go_enter Try.func66, Try.ntmps66
          go_wp2_with fail
          obtain ⟨W0, hW0⟩ : ∃ W0, (w).alloc (.cells #[.int .i64 b.x.lo, .int .i64 b.x.hi, .int .i64 b.y.lo, .int .i64 b.y.hi] 60) = W0 := ⟨_, rfl⟩
          have S0 : St w W0 [(w.heap.size, 0, .int .i64 b.x.lo), (w.heap.size, 1, .int .i64 b.x.hi), (w.heap.size, 2, .int .i64 b.y.lo), (w.heap.size, 3, .int .i64 b.y.hi)] := by rw [← hW0]; exact ((St.nil w)).box #[.int .i64 b.x.lo, .int .i64 b.x.hi, .int .i64 b.y.lo, .int .i64 b.y.hi] 60 (w.heap.size) (by simp)
          rw [hW0]
          clear hW0
          obtain ⟨C, hC0, HC, LC, BC, hne⟩ := cls S0
          haveI := hne
          obtain ⟨c0, rfl⟩ : ∃ n : Wd C, W0 = n.w := ⟨⟨_, hC0⟩, rfl⟩
          have fC0 : ∀ n : Wd C, n.w.cell? ⟨w.heap.size, 0, none⟩ = some (.int .i64 b.x.lo) := fun n => (LC.out n).1.2.1
          have fC1 : ∀ n : Wd C, n.w.cell? ⟨w.heap.size, 1, none⟩ = some (.int .i64 b.x.hi) := fun n => (LC.out n).2.1.2.1
          have fC2 : ∀ n : Wd C, n.w.cell? ⟨w.heap.size, 2, none⟩ = some (.int .i64 b.y.lo) := fun n => (LC.out n).2.2.1.2.1
          have fC3 : ∀ n : Wd C, n.w.cell? ⟨w.heap.size, 3, none⟩ = some (.int .i64 b.y.hi) := fun n => (LC.out n).2.2.2.1.2.1
          clear S0 hC0
          have D0 := cinL HC BC C0
          have D1 := cin HC C1
          have D4 := cinL HC BC C4
          clear C0 C1 C4
          go_wp2_with (first | (go_at_call 92; with_reducible refine (D0 _).out.mono ?_; rintro e w' ⟨rfl, n, rfl⟩) | (go_at_call 54; with_reducible refine (D1 _).out.mono ?_; rintro e w' ⟨rfl, n, rfl⟩) | (go_at_call 94; with_reducible refine (D4 _).out.mono ?_; rintro e w' ⟨rfl, n, rfl⟩))
          go_ret2
          exact ⟨rfl, BC.out _⟩
        · have HR : Hid (R = .tuple #[.int .i64 (bI (anyW l (gridP b) (-1)) 1 + bI (anyW l (gridP b) 0) 2 + bI (anyW l (gridP b) 1) 4), .int .i64 0]) := by unfold Hid; rw [← hR, sdRes, if_pos hc, hz, if_neg hcn, hs, sdFold_flags]; simp
          rw [HR.out]
          rw [hs] at C4
          have HK := Lib.hid (And.intro (And.intro h3 h200) (And.intro hall hz))
          have hnx : ((nX b : Nat) : Int) = b.x.hi - b.x.lo + 1 := by unfold nX; have := HS.out; omega
          have hny : ((nY b : Nat) : Int) = b.y.hi - b.y.lo + 1 := by unfold nY; have := HS.out; omega
          have HNX := Lib.hid (And.intro hnx hny)
          have C5 := fun (p : Pt) (hp : okP p = true) W (hb : Below w.heap.size w W) => rwhere_any q cap l p W (by omega) (by omega) hall hp (HP.out.keep hb)
          have HC5 := Lib.hid C5
          clear hR HR hc h3 h200 hall hp hz hcn HCN hs hnx hny C5
          go_enter Try.func66, Try.ntmps66
          go_wp2_with fail
          obtain ⟨W0, hW0⟩ : ∃ W0, (w).alloc (.cells #[.int .i64 b.x.lo, .int .i64 b.x.hi, .int .i64 b.y.lo, .int .i64 b.y.hi] 60) = W0 := ⟨_, rfl⟩
          have S0 : St w W0 [(w.heap.size, 0, .int .i64 b.x.lo), (w.heap.size, 1, .int .i64 b.x.hi), (w.heap.size, 2, .int .i64 b.y.lo), (w.heap.size, 3, .int .i64 b.y.hi)] := by rw [← hW0]; exact ((St.nil w)).box #[.int .i64 b.x.lo, .int .i64 b.x.hi, .int .i64 b.y.lo, .int .i64 b.y.hi] 60 (w.heap.size) (by simp)
          rw [hW0]
          clear hW0
          obtain ⟨C, hC0, HC, LC, BC, hne⟩ := cls S0
          haveI := hne
          obtain ⟨c0, rfl⟩ : ∃ n : Wd C, W0 = n.w := ⟨⟨_, hC0⟩, rfl⟩
          have fC0 : ∀ n : Wd C, n.w.cell? ⟨w.heap.size, 0, none⟩ = some (.int .i64 b.x.lo) := fun n => (LC.out n).1.2.1
          have fC1 : ∀ n : Wd C, n.w.cell? ⟨w.heap.size, 1, none⟩ = some (.int .i64 b.x.hi) := fun n => (LC.out n).2.1.2.1
          have fC2 : ∀ n : Wd C, n.w.cell? ⟨w.heap.size, 2, none⟩ = some (.int .i64 b.y.lo) := fun n => (LC.out n).2.2.1.2.1
          have fC3 : ∀ n : Wd C, n.w.cell? ⟨w.heap.size, 3, none⟩ = some (.int .i64 b.y.hi) := fun n => (LC.out n).2.2.2.1.2.1
          clear S0 hC0
          have D0 := cinL HC BC C0
          have D1 := cin HC C1
          have D4 := cinL HC BC C4
          clear C0 C1 C4
          go_wp2_with (first | (go_at_call 92; with_reducible refine (D0 _).out.mono ?_; rintro e w' ⟨rfl, n, rfl⟩) | (go_at_call 54; with_reducible refine (D1 _).out.mono ?_; rintro e w' ⟨rfl, n, rfl⟩) | (go_at_call 94; with_reducible refine (D4 _).out.mono ?_; rintro e w' ⟨rfl, n, rfl⟩))
          clear D0 D1 D4 hgt hu hv
          have bd1 := HS.out.1
          have bd2 := HS.out.2
          go_loopw [9, 10, 11, 12] (fun f1 f2 f3 i wr => ∃ (k : Nat) (n : Wd C), wr = n.w ∧ i = .int .i64 (b.x.lo + (k : Int)) ∧ k ≤ nX b ∧ f1 = .int .i64 (bI (anyW l (grP b k) (-1)) 1) ∧ f2 = .int .i64 (bI (anyW l (grP b k) 0) 2) ∧ f3 = .int .i64 (bI (anyW l (grP b k) 1) 4)) (fun _ _ _ i _ => (b.x.hi + 1 - intOf i).toNat)
          case atStart => exact ⟨0, _, rfl, by simp, Nat.zero_le _, rfl, rfl, rfl⟩
          case round =>
            obtain ⟨k, n1, rfl, rfl, hk, rfl, rfl, rfl⟩ := hrel
            by_cases hlt : k < nX b
            · have hle : b.x.lo + (k : Int) ≤ b.x.hi := by have := HNX.out.1; omega
              obtain ⟨wo, hwo⟩ : ∃ wo : World, n1.w = wo := ⟨_, rfl⟩
              have HWO := Lib.hid hwo
              clear hwo
              go_wp2_with fail
              rw [HWO.out]
              go_loopw [9, 10, 11, 13] (fun f1 f2 f3 i wr => ∃ (j : Nat) (n : Wd C), wr = n.w ∧ i = .int .i64 (b.y.lo + (j : Int)) ∧ j ≤ nY b ∧ f1 = .int .i64 (bI (anyW l (grP b k ++ colP b k j) (-1)) 1) ∧ f2 = .int .i64 (bI (anyW l (grP b k ++ colP b k j) 0) 2) ∧ f3 = .int .i64 (bI (anyW l (grP b k ++ colP b k j) 1) 4)) (fun _ _ _ i _ => (b.y.hi + 1 - intOf i).toNat)
              case atStart => exact ⟨0, n1, HWO.out.symm, by simp, Nat.zero_le _, by simp [colP], by simp [colP], by simp [colP]⟩
              case round =>
                obtain ⟨j, n2, rfl, rfl, hj, rfl, rfl, rfl⟩ := hrel
                clear HWO
                by_cases hlt2 : j < nY b
                · have hle2 : b.y.lo + (j : Int) ≤ b.y.hi := by have := HNX.out.2; omega
                  have hok : okP ⟨b.x.lo + (k : Int), b.y.lo + (j : Int)⟩ = true := okP_iff.2 ⟨by simp only; omega, by simp only; omega⟩
                  have D5 := cinL HC BC (HC5.out ⟨b.x.lo + (k : Int), b.y.lo + (j : Int)⟩ hok)
                  have HX := Lib.hid (fun v : Int => anyW_snoc l (grP b k ++ colP b k j) ⟨b.x.lo + (k : Int), b.y.lo + (j : Int)⟩ v)
                  have HE : Hid (grP b k ++ colP b k (j + 1) = grP b k ++ colP b k j ++ [⟨b.x.lo + (k : Int), b.y.lo + (j : Int)⟩]) := by unfold Hid; rw [colP_succ, List.append_assoc]
                  have hcs := whr_cases l ⟨b.x.lo + (k : Int), b.y.lo + (j : Int)⟩
                  obtain ⟨wv, hwv⟩ : ∃ v, whr l ⟨b.x.lo + (k : Int), b.y.lo + (j : Int)⟩ = v := ⟨_, rfl⟩
                  rw [hwv] at D5 HX hcs
                  obtain ⟨a1, h1⟩ : ∃ a, anyW l (grP b k ++ colP b k j) (-1) = a := ⟨_, rfl⟩
                  obtain ⟨a2, h2⟩ : ∃ a, anyW l (grP b k ++ colP b k j) 0 = a := ⟨_, rfl⟩
                  obtain ⟨a3, h3⟩ : ∃ a, anyW l (grP b k ++ colP b k j) 1 = a := ⟨_, rfl⟩
                  have X1 := HX.out (-1)
                  have X2 := HX.out 0
                  have X3 := HX.out 1
                  rw [← HE.out, h1] at X1
                  rw [← HE.out, h2] at X2
                  rw [← HE.out, h3] at X3
                  rw [h1, h2, h3]
                  have HXX := Lib.hid (And.intro X1 (And.intro X2 X3))
                  clear hwv h1 h2 h3 X1 X2 X3 HX HE hok
                  rcases hcs with rfl | rfl | rfl
                  all_goals
                    go_wp2_with (first | (go_at_call 100; with_reducible refine (D5 _).out.mono ?_; rintro e w' ⟨rfl, n, rfl⟩))
                    go_roundw
                    case rel => exact ⟨j + 1, n, rfl, by simp; omega, by omega, by rw [HXX.out.1]; cases a1 <;> rfl, by rw [HXX.out.2.1]; cases a2 <;> rfl, by rw [HXX.out.2.2]; cases a3 <;> rfl⟩
                    case measure => simp [intOf]; omega
                · obtain rfl : j = nY b := by omega
                  have hgt2 : ¬ b.y.lo + ((nY b : Nat) : Int) ≤ b.y.hi := by have := HNX.out.2; omega
                  go_wp2_with fail
                  go_roundw
                  case rel => exact ⟨k + 1, n2, rfl, by simp; omega, by omega, by rw [grP_succ], by rw [grP_succ], by rw [grP_succ]⟩
                  case measure => simp [intOf]; omega
            · obtain rfl : k = nX b := by omega
              have hgt2 : ¬ b.x.lo + ((nX b : Nat) : Int) ≤ b.x.hi := by have := HNX.out.1; omega
              have hw1 : wrap64 (bI (anyW l (grP b (nX b)) (-1)) 1 + bI (anyW l (grP b (nX b)) 0) 2) = bI (anyW l (grP b (nX b)) (-1)) 1 + bI (anyW l (grP b (nX b)) 0) 2 := w64 (by unfold bI; split <;> split <;> decide)
              have hw2 : wrap64 (bI (anyW l (grP b (nX b)) (-1)) 1 + bI (anyW l (grP b (nX b)) 0) 2 + bI (anyW l (grP b (nX b)) 1) 4) = bI (anyW l (grP b (nX b)) (-1)) 1 + bI (anyW l (grP b (nX b)) 0) 2 + bI (anyW l (grP b (nX b)) 1) 4 := w64 (by unfold bI; split <;> split <;> split <;> decide)
              go_wp2_with fail
              go_ret2
              exact ⟨rfl, BC.out _⟩
  · have HR : Hid (R = .tuple #[.int .i64 0, .int .i64 c]) := by unfold Hid; rw [← hR, sdRes, if_neg (by rw [hc]; exact h0), hc]
    rw [HR.out]
    clear hR HR hc hp
    go_enter Try.func66, Try.ntmps66
    go_wp2_with fail
    obtain ⟨W0, hW0⟩ : ∃ W0, (w).alloc (.cells #[.int .i64 b.x.lo, .int .i64 b.x.hi, .int .i64 b.y.lo, .int .i64 b.y.hi] 60) = W0 := ⟨_, rfl⟩
    have S0 : St w W0 [(w.heap.size, 0, .int .i64 b.x.lo), (w.heap.size, 1, .int .i64 b.x.hi), (w.heap.size, 2, .int .i64 b.y.lo), (w.heap.size, 3, .int .i64 b.y.hi)] := by rw [← hW0]; exact ((St.nil w)).box #[.int .i64 b.x.lo, .int .i64 b.x.hi, .int .i64 b.y.lo, .int .i64 b.y.hi] 60 (w.heap.size) (by simp)
    rw [hW0]
    clear hW0
    obtain ⟨C, hC0, HC, LC, BC, hne⟩ := cls S0
    haveI := hne
    obtain ⟨c0, rfl⟩ : ∃ n : Wd C, W0 = n.w := ⟨⟨_, hC0⟩, rfl⟩
    have fC0 : ∀ n : Wd C, n.w.cell? ⟨w.heap.size, 0, none⟩ = some (.int .i64 b.x.lo) := fun n => (LC.out n).1.2.1
    have fC1 : ∀ n : Wd C, n.w.cell? ⟨w.heap.size, 1, none⟩ = some (.int .i64 b.x.hi) := fun n => (LC.out n).2.1.2.1
    have fC2 : ∀ n : Wd C, n.w.cell? ⟨w.heap.size, 2, none⟩ = some (.int .i64 b.y.lo) := fun n => (LC.out n).2.2.1.2.1
    have fC3 : ∀ n : Wd C, n.w.cell? ⟨w.heap.size, 3, none⟩ = some (.int .i64 b.y.hi) := fun n => (LC.out n).2.2.2.1.2.1
    clear S0 hC0
    have D0 := cinL HC BC C0
    clear C0
    go_wp2_with (first | (go_at_call 92; with_reducible refine (D0 _).out.mono ?_; rintro e w' ⟨rfl, n, rfl⟩))
    go_ret2
    exact ⟨rfl, BC.out _⟩
end Go.Proofs.Ytdefpcjlbganpaa
