import Derived.RangeFuncNested
import Derived.RangeFuncBox
import Derived.RangeFuncBound
import Derived.RangeFuncCalls
import Derived.RangeFuncLeaves
import Derived.Shelf.Abstract
import Derived.Shelf.RegionOpen
import Derived.BigRegionIn
import Derived.Stop.RegionWithIn
import Derived.WalkKit
import Derived.OwnWalkIn
import Derived.TacticsInMore
import Derived.LoopNIn
import Derived.LoopIn
import Derived.Lib.Hide
import Derived.IntWalk
import Derived.Deep.QuietTactic
import Derived.Deep.RegionHeld3
import Derived.Deep.RegionLaw
import Derived.Deep.RegionWith
import Derived.StillTailTactics
import Derived.WalkSmall
import Derived.Deep.DeepMust
import Derived.BigQuiet
import Derived.WalkLawsBesides
import Derived.WalkSpells
import Derived.LoopTactic
import Derived.Test.YtdefpcjlbganpaaHU
import Derived.Test.YtdefpcjlbganpaaTurned
import Derived.Test.YtdefpcjlbganpaaMEx
import Derived.Test.YtdefpcjlbganpaaRingsLaw
import Derived.Test.YtdefpcjlbganpaaHullLaw
import Derived.Test.YtdefpcjlbganpaaMSort
import Derived.Maps.AppendAt
import Derived.Lib.MinMax
import Derived.Test.YtdefpcjlbganpaaMBxs
import Derived.Test.YtdefpcjlbganpaaMCut
import Derived.Test.YtdefpcjlbganpaaHU
import Derived.Test.YtdefpcjlbganpaaTurned
import Derived.Test.YtdefpcjlbganpaaMEx
import Derived.Maps.AppendAt
import Derived.Lib.MinMax
import Derived.Test.YtdefpcjlbganpaaMBxs
import Derived.Test.YtdefpcjlbganpaaMCut
import Derived.Test.YtdefpcjlbganpaaMDist
import Derived.Lib.SliceRun
import Derived.Lib.SlicesCompact
import Derived.Deep.LoopGhost
import Derived.Deep.DeepCutAuto
import Derived.Deep.CutBlock
namespace Go.Proofs.Ytdefpcjlbganpaa
open Go.RowKit Go.Shelf Go.BigFrame Go.Sort
attribute [local go_sem] Oper.semAt_some
attribute [local go_sem] World.cell?_alloc_some
/-- What the law of fair rings wants of plain numbers. -/
structure RF (l : List Pt) (p : Pt) : Prop where
  e1 : awr (egs (trnd l false)) = awr (egs l)
  e2 : wrap64 (-(awr (egs (trnd l true)))) = awr (egs l)
  e3 : (egs (trnd l true)).any (oeB p) = (egs l).any (oeB p)
  e4 : wrap64 (-(wnr p (egs (trnd l true)))) = wnr p (egs l)
  e5 : smp l = true → awr (egs l) ≠ 0 ∧ ((egs l).any (oeB p) = false → wnr p (egs l) = 0 ∨ wnr p (egs l) = if awr (egs l) < 0 then -1 else 1)
theorem pt_in (l : List Pt) (j : Nat) (h : j < l.length) : pt l j ∈ l := by
  simp [pt, h]
theorem trnd_ck {l : List Pt} (back : Bool) (h : ck 3 l = 0) : ck 3 (trnd l back) = 0 := by
  obtain ⟨h1, h2, h3⟩ := ck_len h
  refine ck_all (by rw [trnd_len]; omega) (List.all_eq_true.2 fun x hx => ?_)
  obtain ⟨i, hi, rfl⟩ := List.mem_map.1 hx
  have hi' : i < l.length := by simpa using hi
  refine List.all_eq_true.1 h3 _ ?_
  unfold trnF
  split
  · exact pt_in _ _ (by omega)
  · exact pt_in _ _ (Nat.mod_lt _ (by omega))
set_option maxRecDepth 100000 in
set_option maxHeartbeats 16000000 in
theorem ringsFair_of (q : Option Addr) (cap : Nat) (l : List Pt) (p : Pt) (w : World) (hl : l.length ≤ 140737488355327) (hp : PtsAt w q l)
    (hR : ck 3 l = 0 → l.length ≤ 40 → okP p = true → RF l p) :
    Calls Try.prog 12 #[.slice q l.length cap, p.v] w fun e w' => e = .returned (.bool true) ∧ Below w.heap.size w w' := by
  have HP := Lib.hid hp
  have A1 := fun W (hb : Below w.heap.size w W) => Area_any q cap l W hl (HP.out.keep hb)
  have V1 := fun W => Valid_any p W
  by_cases h40 : 40 < l.length
  · obtain ⟨a1, e1, h1⟩ := ar_tup l
    rw [h1] at A1
    have hgd : decide ((40 : Int) < (l.length : Int)) = true := decide_eq_true (by omega)
    clear hR hp HP V1 h1
    go_enter Try.func12, Try.ntmps12
    go_wp2_with fail
    obtain ⟨W0, hW0⟩ : ∃ W0, (w).alloc (.cells #[.int .i64 p.x, .int .i64 p.y] 23) = W0 := ⟨_, rfl⟩
    have S0 : St w W0 [(w.heap.size, 0, .int .i64 p.x), (w.heap.size, 1, .int .i64 p.y)] := by rw [← hW0]; exact ((St.nil w)).box #[.int .i64 p.x, .int .i64 p.y] 23 (w.heap.size) (by simp)
    rw [hW0]
    clear hW0
    obtain ⟨C, hC0, HC, LC, BC, hne⟩ := cls S0
    haveI := hne
    obtain ⟨c0, rfl⟩ : ∃ n : Wd C, W0 = n.w := ⟨⟨_, hC0⟩, rfl⟩
    have fC0 : ∀ n : Wd C, n.w.cell? ⟨w.heap.size, 0, none⟩ = some (.int .i64 p.x) := fun n => (LC.out n).1.2.1
    have fC1 : ∀ n : Wd C, n.w.cell? ⟨w.heap.size, 1, none⟩ = some (.int .i64 p.y) := fun n => (LC.out n).2.1.2.1
    clear S0 hC0
    have D1 := cinL HC BC A1
    have DS := cin HC sanity_any
    clear A1
    go_wp2_with (first | (go_at_call 30; with_reducible refine (D1 _).out.mono ?_; rintro e w' ⟨rfl, n, rfl⟩) | (go_at_call 16; with_reducible refine (DS _).out.mono ?_; rintro e w' ⟨rfl, n, rfl⟩))
    go_ret
    exact ⟨rfl, BC.out _⟩
  · by_cases hck : ck 3 l = 0
    · have h1 : arRes l = .tuple #[.int .i64 (awr (egs l)), .int .i64 0] := by unfold arRes; rw [if_pos hck]
      by_cases hok : okP p = true
      · have HR := Lib.hid (hR hck (by omega) hok)
        obtain ⟨R1, R2, R3, R4, R5⟩ := HR.out
        have k1 := trnd_ck false hck
        have k2 := trnd_ck true hck
        have hlt := trnd_len l
        have h200 : l.length ≤ 40 := by omega
        have T1 : Hid (∀ W, Below w.heap.size w W → _) := fun W hb => turned_any q cap l false W (by omega) (HP.out.keep hb)
        have T2 : Hid (∀ W, Below w.heap.size w W → _) := fun W hb => turned_any q cap l true W (by omega) (HP.out.keep hb)
        have AX : Hid (∀ b W v, PO W W.heap.size [] v (trnd l b) W → True) := fun _ _ _ _ => trivial
        have hA2 : arRes (trnd l false) = .tuple #[.int .i64 (awr (egs l)), .int .i64 0] := by unfold arRes; rw [if_pos k1, R1]
        have hA3 : arRes (trnd l true) = .tuple #[.int .i64 (awr (egs (trnd l true))), .int .i64 0] := by unfold arRes; rw [if_pos k2]
        have hS : smRes l = .tuple #[.bool (smp l), .int .i64 0] := by unfold smRes; rw [if_pos hck]
        obtain ⟨o, ho⟩ : ∃ o, (egs l).any (oeB p) = o := ⟨_, rfl⟩
        rw [ho] at R3 R5
        have hW1 : wnRes l p = if o then .tuple #[.int .i64 0, .int .i64 4] else .tuple #[.int .i64 (wnr p (egs l)), .int .i64 0] := by unfold wnRes; simp [if_pos hck, hok, ho]
        have hW2 : wnRes (trnd l true) p = if o then .tuple #[.int .i64 0, .int .i64 4] else .tuple #[.int .i64 (wnr p (egs (trnd l true))), .int .i64 0] := by unfold wnRes; simp [if_pos k2, hok, R3]
        have hX : whRes l p = if smp l then .tuple #[.int .i64 (if o then 0 else if wnr p (egs l) = 0 then -1 else 1), .int .i64 0] else .tuple #[.int .i64 0, .int .i64 4] := by unfold whRes whr; simp [if_pos hck, hok, ho]
        have S1 := fun W (hb : Below w.heap.size w W) => Simple_any q cap l W hl (HP.out.keep hb)
        have W1 := fun W (hb : Below w.heap.size w W) => Winding_any q cap l p W hl (HP.out.keep hb)
        have X1 := fun W (hb : Below w.heap.size w W) => Where_any q cap l p W hl (HP.out.keep hb)
        have B2 : Hid (∀ a c W, PtsAt W a (trnd l false) → Calls Try.prog 30 #[.slice a l.length c] W fun e w' => e = .returned (.tuple #[.int .i64 (awr (egs l)), .int .i64 0]) ∧ Below W.heap.size W w') := fun a c W h => by
          have := Area_any a c (trnd l false) W (by rw [hlt]; omega) h
          rw [hA2, hlt] at this; exact this
        have B3 : Hid (∀ a c W, PtsAt W a (trnd l true) → Calls Try.prog 30 #[.slice a l.length c] W fun e w' => e = .returned (.tuple #[.int .i64 (awr (egs (trnd l true))), .int .i64 0]) ∧ Below W.heap.size W w') := fun a c W h => by
          have := Area_any a c (trnd l true) W (by rw [hlt]; omega) h
          rw [hA3, hlt] at this; exact this
        have B4 : Hid (∀ a c W, PtsAt W a (trnd l true) → Calls Try.prog 34 #[.slice a l.length c, p.v] W fun e w' => e = .returned (if o then .tuple #[.int .i64 0, .int .i64 4] else .tuple #[.int .i64 (wnr p (egs (trnd l true))), .int .i64 0]) ∧ Below W.heap.size W w') := fun a c W h => by
          have := Winding_any a c (trnd l true) p W (by rw [hlt]; omega) h
          rw [hW2, hlt] at this; exact this
        have T1 : Hid (∀ W, Below w.heap.size w W → Calls Try.prog 68 #[.slice q l.length cap, .bool false] W fun e w' => ∃ a c, e = .returned (.slice a l.length c) ∧ PtsAt w' a (trnd l false) ∧ Below W.heap.size W w') := fun W hb =>
          (turned_any q cap l false W (by omega) (HP.out.keep hb)).mono fun e w' h => by
            obtain ⟨v, rfl, P⟩ := h
            obtain ⟨a, c, rfl, hq⟩ := P.pts
            exact ⟨a, c, by rw [hlt], hq, P.st.b⟩
        have T2 : Hid (∀ W, Below w.heap.size w W → Calls Try.prog 68 #[.slice q l.length cap, .bool true] W fun e w' => ∃ a c, e = .returned (.slice a l.length c) ∧ PtsAt w' a (trnd l true) ∧ Below W.heap.size W w') := fun W hb =>
          (turned_any q cap l true W (by omega) (HP.out.keep hb)).mono fun e w' h => by
            obtain ⟨v, rfl, P⟩ := h
            obtain ⟨a, c, rfl, hq⟩ := P.pts
            exact ⟨a, c, by rw [hlt], hq, P.st.b⟩
        rw [h1] at A1
        rw [hS] at S1
        rw [hW1] at W1
        rw [hX] at X1
        rw [hok] at V1
        obtain ⟨A, hA⟩ : ∃ A, awr (egs l) = A := ⟨_, rfl⟩
        obtain ⟨c, hc⟩ : ∃ A, awr (egs (trnd l true)) = A := ⟨_, rfl⟩
        obtain ⟨n, hn⟩ : ∃ A, wnr p (egs l) = A := ⟨_, rfl⟩
        obtain ⟨v, hv⟩ : ∃ A, wnr p (egs (trnd l true)) = A := ⟨_, rfl⟩
        obtain ⟨s, hs⟩ : ∃ s, smp l = s := ⟨_, rfl⟩
        simp only [hA, hc, hn, hv, hs] at *
        have hgd : decide ((40 : Int) < (l.length : Int)) = false := decide_eq_false (by omega)
        have hwc : IntKind.i64.wrap (-c) = A := (wrapEq _).trans R2
        have hwv : IntKind.i64.wrap (-v) = n := (wrapEq _).trans R4
        clear hR HR hp HP h1 hA2 hA3 hS hW1 hW2 hX ho hA hc hn hv hs k1 k2 hck hok R1 R2 R3 R4 AX
        have HR5 := Lib.hid R5
        have HWC := Lib.hid (And.intro hwc hwv)
        clear R5 hlt h200 h40 hwc hwv
        have tail : Hid (∀ (C : World → Prop) (_ : Nonempty (Wd C)), True) := fun _ _ => trivial
        clear tail
        go_enter Try.func12, Try.ntmps12
        go_wp2_with fail
        obtain ⟨W0, hW0⟩ : ∃ W0, (w).alloc (.cells #[.int .i64 p.x, .int .i64 p.y] 23) = W0 := ⟨_, rfl⟩
        have S0 : St w W0 [(w.heap.size, 0, .int .i64 p.x), (w.heap.size, 1, .int .i64 p.y)] := by rw [← hW0]; exact ((St.nil w)).box #[.int .i64 p.x, .int .i64 p.y] 23 (w.heap.size) (by simp)
        rw [hW0]
        clear hW0
        obtain ⟨C, hC0, HC, LC, BC, hne⟩ := cls S0
        haveI := hne
        obtain ⟨c0, rfl⟩ : ∃ n : Wd C, W0 = n.w := ⟨⟨_, hC0⟩, rfl⟩
        have fC0 : ∀ n : Wd C, n.w.cell? ⟨w.heap.size, 0, none⟩ = some (.int .i64 p.x) := fun n => (LC.out n).1.2.1
        have fC1 : ∀ n : Wd C, n.w.cell? ⟨w.heap.size, 1, none⟩ = some (.int .i64 p.y) := fun n => (LC.out n).2.1.2.1
        clear S0 hC0
        have D1 := cinL HC BC A1
        have D2 := cin HC V1
        have DS := cin HC sanity_any
        have D3 := cinL HC BC S1
        have D4 := cinL HC BC W1
        have D5 := cinL HC BC X1
        clear A1 V1 S1 W1 X1
        go_wp2_with (first | (go_at_call 30; with_reducible refine (D1 _).out.mono ?_; rintro e w' ⟨rfl, n, rfl⟩) | (go_at_call 17; with_reducible refine (D2 _).out.mono ?_; rintro e w' ⟨rfl, n, rfl⟩))
        go_wp2_with (go_at_call 68; with_reducible refine (T1.out _ (BC.out _)).mono ?_; rintro e w1 ⟨a1, c1, rfl, hP, hB⟩)
        have Q1 := Lib.hid hP
        have K1 : Hid (C w1) := HC.out _ _ (Wd.h _) hB
        clear hP hB T1
        go_wp2_with (go_at_call 30; with_reducible refine (B2.out _ _ _ Q1.out).mono ?_; rintro e w2 ⟨rfl, hB⟩; obtain ⟨n2, rfl⟩ : ∃ n : Wd C, w2 = n.w := ⟨⟨w2, HC.out _ _ K1.out hB⟩, rfl⟩; clear hB B2 K1 Q1)
        go_wp2_with (go_at_call 68; with_reducible refine (T2.out _ (BC.out _)).mono ?_; rintro e w1 ⟨a3, c3, rfl, hP, hB⟩)
        have Q1 := Lib.hid hP
        have K1 : Hid (C w1) := HC.out _ _ (Wd.h _) hB
        clear hP hB
        go_wp2_with (go_at_call 30; with_reducible refine (B3.out _ _ _ Q1.out).mono ?_; rintro e w2 ⟨rfl, hB⟩; obtain ⟨n3, rfl⟩ : ∃ n : Wd C, w2 = n.w := ⟨⟨w2, HC.out _ _ K1.out hB⟩, rfl⟩; clear hB B3 K1 Q1)
        cases o
        · simp only [Bool.false_eq_true, if_false] at D4 B4 D5 HR5
          go_wp2_with (first | (go_at_call 34; with_reducible refine (D4 _).out.mono ?_; rintro e w' ⟨rfl, n, rfl⟩))
          go_region_with (first
            | (go_at_call 68; with_reducible refine (T2.out _ (BC.out ⟨_, HC.out _ _ (Wd.h _) (below_dr _)⟩)).mono ?_; rintro e w1 ⟨a5, c5, rfl, hP, hB⟩
               obtain ⟨n4, rfl⟩ : ∃ n : Wd C, w1 = n.w := ⟨⟨w1, HC.out _ _ (HC.out _ _ (Wd.h _) (below_dr _)) hB⟩, rfl⟩)
            | (go_at_call 34; with_reducible refine (B4.out _ _ _ hP).mono ?_; rintro e w2 ⟨rfl, hB2⟩
               obtain ⟨n5, rfl⟩ : ∃ n : Wd C, w2 = n.w := ⟨⟨w2, HC.out _ _ (Wd.h _) hB2⟩, rfl⟩))
          all_goals
            clear T2 B4 D4 D1 D2
            obtain ⟨hwc, hwv⟩ := HWC.out
            cases s
            · simp only [Bool.false_eq_true, if_false] at D3 D5
              go_wp2_with (first | (go_at_call 32; with_reducible refine (D3 _).out.mono ?_; rintro e w' ⟨rfl, n, rfl⟩) | (go_at_call 36; with_reducible refine (D5 _).out.mono ?_; rintro e w' ⟨rfl, n, rfl⟩) | (go_at_call 16; with_reducible refine (DS _).out.mono ?_; rintro e w' ⟨rfl, n, rfl⟩))
              go_ret
              exact ⟨rfl, BC.out _⟩
            · obtain ⟨hA0, hn⟩ := HR5.out rfl
              have hA1 : (A == 0) = false := by simpa using hA0
              have hA2 : (A != 0) = true := by simpa using hA0
              simp only [if_true] at D5
              rcases hn trivial with hn | hn
              · subst hn
                simp only [if_true] at D5
                by_cases hA : A < 0
                · go_wp2_with (first | (go_at_call 32; with_reducible refine (D3 _).out.mono ?_; rintro e w' ⟨rfl, n, rfl⟩) | (go_at_call 36; with_reducible refine (D5 _).out.mono ?_; rintro e w' ⟨rfl, n, rfl⟩) | (go_at_call 16; with_reducible refine (DS _).out.mono ?_; rintro e w' ⟨rfl, n, rfl⟩))
                  go_ret
                  exact ⟨rfl, BC.out _⟩
                · go_wp2_with (first | (go_at_call 32; with_reducible refine (D3 _).out.mono ?_; rintro e w' ⟨rfl, n, rfl⟩) | (go_at_call 36; with_reducible refine (D5 _).out.mono ?_; rintro e w' ⟨rfl, n, rfl⟩) | (go_at_call 16; with_reducible refine (DS _).out.mono ?_; rintro e w' ⟨rfl, n, rfl⟩))
                  go_ret
                  exact ⟨rfl, BC.out _⟩
              · by_cases hA : A < 0
                · rw [if_pos hA] at hn
                  subst hn
                  simp only [show ¬ (-1 : Int) = 0 from by decide, if_false] at D5
                  go_wp2_with (first | (go_at_call 32; with_reducible refine (D3 _).out.mono ?_; rintro e w' ⟨rfl, n, rfl⟩) | (go_at_call 36; with_reducible refine (D5 _).out.mono ?_; rintro e w' ⟨rfl, n, rfl⟩) | (go_at_call 16; with_reducible refine (DS _).out.mono ?_; rintro e w' ⟨rfl, n, rfl⟩))
                  go_ret
                  exact ⟨rfl, BC.out _⟩
                · rw [if_neg hA] at hn
                  subst hn
                  simp only [show ¬ (1 : Int) = 0 from by decide, if_false] at D5
                  go_wp2_with (first | (go_at_call 32; with_reducible refine (D3 _).out.mono ?_; rintro e w' ⟨rfl, n, rfl⟩) | (go_at_call 36; with_reducible refine (D5 _).out.mono ?_; rintro e w' ⟨rfl, n, rfl⟩) | (go_at_call 16; with_reducible refine (DS _).out.mono ?_; rintro e w' ⟨rfl, n, rfl⟩))
                  go_ret
                  exact ⟨rfl, BC.out _⟩
        · simp only [if_true] at D4 B4 D5 HR5
          go_wp2_with (first | (go_at_call 34; with_reducible refine (D4 _).out.mono ?_; rintro e w' ⟨rfl, n, rfl⟩))
          go_region_with (first
            | (go_at_call 68; with_reducible refine (T2.out _ (BC.out ⟨_, HC.out _ _ (Wd.h _) (below_dr _)⟩)).mono ?_; rintro e w1 ⟨a5, c5, rfl, hP, hB⟩
               obtain ⟨n4, rfl⟩ : ∃ n : Wd C, w1 = n.w := ⟨⟨w1, HC.out _ _ (HC.out _ _ (Wd.h _) (below_dr _)) hB⟩, rfl⟩)
            | (go_at_call 34; with_reducible refine (B4.out _ _ _ hP).mono ?_; rintro e w2 ⟨rfl, hB2⟩
               obtain ⟨n5, rfl⟩ : ∃ n : Wd C, w2 = n.w := ⟨⟨w2, HC.out _ _ (Wd.h _) hB2⟩, rfl⟩))
          all_goals
            clear T2 B4 D4 D1 D2
            obtain ⟨hwc, hwv⟩ := HWC.out
            cases s
            · simp only [Bool.false_eq_true, if_false] at D3 D5
              go_wp2_with (first | (go_at_call 32; with_reducible refine (D3 _).out.mono ?_; rintro e w' ⟨rfl, n, rfl⟩) | (go_at_call 36; with_reducible refine (D5 _).out.mono ?_; rintro e w' ⟨rfl, n, rfl⟩) | (go_at_call 16; with_reducible refine (DS _).out.mono ?_; rintro e w' ⟨rfl, n, rfl⟩))
              go_ret
              exact ⟨rfl, BC.out _⟩
            · obtain ⟨hA0, hn⟩ := HR5.out rfl
              have hA1 : (A == 0) = false := by simpa using hA0
              have hA2 : (A != 0) = true := by simpa using hA0
              simp only [if_true] at D5
              by_cases hA : A < 0
              · go_wp2_with (first | (go_at_call 32; with_reducible refine (D3 _).out.mono ?_; rintro e w' ⟨rfl, n, rfl⟩) | (go_at_call 36; with_reducible refine (D5 _).out.mono ?_; rintro e w' ⟨rfl, n, rfl⟩) | (go_at_call 16; with_reducible refine (DS _).out.mono ?_; rintro e w' ⟨rfl, n, rfl⟩))
                go_ret
                exact ⟨rfl, BC.out _⟩
              · go_wp2_with (first | (go_at_call 32; with_reducible refine (D3 _).out.mono ?_; rintro e w' ⟨rfl, n, rfl⟩) | (go_at_call 36; with_reducible refine (D5 _).out.mono ?_; rintro e w' ⟨rfl, n, rfl⟩) | (go_at_call 16; with_reducible refine (DS _).out.mono ?_; rintro e w' ⟨rfl, n, rfl⟩))
                go_ret
                exact ⟨rfl, BC.out _⟩
      · have hok' : okP p = false := by simpa using hok
        obtain ⟨a1, ha⟩ : ∃ a, awr (egs l) = a := ⟨_, rfl⟩
        rw [h1, ha] at A1
        rw [hok'] at V1
        have hgd : decide ((40 : Int) < (l.length : Int)) = false := decide_eq_false (by omega)
        clear hR hp HP h1 ha hok hok'
        go_enter Try.func12, Try.ntmps12
        go_wp2_with fail
        obtain ⟨W0, hW0⟩ : ∃ W0, (w).alloc (.cells #[.int .i64 p.x, .int .i64 p.y] 23) = W0 := ⟨_, rfl⟩
        have S0 : St w W0 [(w.heap.size, 0, .int .i64 p.x), (w.heap.size, 1, .int .i64 p.y)] := by rw [← hW0]; exact ((St.nil w)).box #[.int .i64 p.x, .int .i64 p.y] 23 (w.heap.size) (by simp)
        rw [hW0]
        clear hW0
        obtain ⟨C, hC0, HC, LC, BC, hne⟩ := cls S0
        haveI := hne
        obtain ⟨c0, rfl⟩ : ∃ n : Wd C, W0 = n.w := ⟨⟨_, hC0⟩, rfl⟩
        have fC0 : ∀ n : Wd C, n.w.cell? ⟨w.heap.size, 0, none⟩ = some (.int .i64 p.x) := fun n => (LC.out n).1.2.1
        have fC1 : ∀ n : Wd C, n.w.cell? ⟨w.heap.size, 1, none⟩ = some (.int .i64 p.y) := fun n => (LC.out n).2.1.2.1
        clear S0 hC0
        have D1 := cinL HC BC A1
        have D2 := cin HC V1
        have DS := cin HC sanity_any
        clear A1 V1
        go_wp2_with (first | (go_at_call 30; with_reducible refine (D1 _).out.mono ?_; rintro e w' ⟨rfl, n, rfl⟩) | (go_at_call 17; with_reducible refine (D2 _).out.mono ?_; rintro e w' ⟨rfl, n, rfl⟩) | (go_at_call 16; with_reducible refine (DS _).out.mono ?_; rintro e w' ⟨rfl, n, rfl⟩))
        go_ret
        exact ⟨rfl, BC.out _⟩
    · have h1 : arRes l = .tuple #[.int .i64 0, .int .i64 (ck 3 l)] := by unfold arRes; rw [if_neg hck]
      obtain ⟨c, hc⟩ : ∃ c, ck 3 l = c := ⟨_, rfl⟩
      rw [h1] at A1
      simp only [hc] at A1 hck
      have hgd : decide ((40 : Int) < (l.length : Int)) = false := decide_eq_false (by omega)
      have he' : (c == 0) = false := by simpa using hck
      have he2 : (c != 0) = true := by simpa using hck
      clear hR hp HP V1 h1 hc
      go_enter Try.func12, Try.ntmps12
      go_wp2_with fail
      obtain ⟨W0, hW0⟩ : ∃ W0, (w).alloc (.cells #[.int .i64 p.x, .int .i64 p.y] 23) = W0 := ⟨_, rfl⟩
      have S0 : St w W0 [(w.heap.size, 0, .int .i64 p.x), (w.heap.size, 1, .int .i64 p.y)] := by rw [← hW0]; exact ((St.nil w)).box #[.int .i64 p.x, .int .i64 p.y] 23 (w.heap.size) (by simp)
      rw [hW0]
      clear hW0
      obtain ⟨C, hC0, HC, LC, BC, hne⟩ := cls S0
      haveI := hne
      obtain ⟨c0, rfl⟩ : ∃ n : Wd C, W0 = n.w := ⟨⟨_, hC0⟩, rfl⟩
      have fC0 : ∀ n : Wd C, n.w.cell? ⟨w.heap.size, 0, none⟩ = some (.int .i64 p.x) := fun n => (LC.out n).1.2.1
      have fC1 : ∀ n : Wd C, n.w.cell? ⟨w.heap.size, 1, none⟩ = some (.int .i64 p.y) := fun n => (LC.out n).2.1.2.1
      clear S0 hC0
      have D1 := cinL HC BC A1
      have DS := cin HC sanity_any
      clear A1
      go_wp2_with (first | (go_at_call 30; with_reducible refine (D1 _).out.mono ?_; rintro e w' ⟨rfl, n, rfl⟩) | (go_at_call 16; with_reducible refine (DS _).out.mono ?_; rintro e w' ⟨rfl, n, rfl⟩))
      go_ret
      exact ⟨rfl, BC.out _⟩
end Go.Proofs.Ytdefpcjlbganpaa
