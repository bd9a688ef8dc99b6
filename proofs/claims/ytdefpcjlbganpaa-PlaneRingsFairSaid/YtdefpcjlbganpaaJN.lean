import Derived.RangeFuncNested
import Derived.RangeFuncBox
import Derived.RangeFuncBound
import Derived.RangeFuncCalls
import Derived.RangeFuncLeaves
import Derived.Shelf.Abstract
import Derived.Shelf.RegionOpen
import Derived.BigRegionIn
import Derived.Stop.RegionWithIn
import Derived.WalkKit
import Derived.OwnWalkIn
import Derived.TacticsInMore
import Derived.LoopNIn
import Derived.LoopIn
import Derived.Lib.Hide
import Derived.IntWalk
import Derived.Deep.QuietTactic
import Derived.Deep.RegionHeld3
import Derived.Deep.RegionLaw
import Derived.StillTailTactics
import Derived.WalkSmall
import Derived.Deep.DeepMust
import Derived.BigQuiet
import Derived.WalkLawsBesides
import Derived.WalkSpells
import Derived.LoopTactic
import Derived.Test.YtdefpcjlbganpaaHU
import Derived.Test.YtdefpcjlbganpaaMEx
import Derived.Test.YtdefpcjlbganpaaRingsLaw
import Derived.Test.YtdefpcjlbganpaaHullLaw
import Derived.Test.YtdefpcjlbganpaaMSort
import Derived.Maps.AppendAt
import Derived.Lib.MinMax
import Derived.Test.YtdefpcjlbganpaaMBxs
import Derived.Test.YtdefpcjlbganpaaMCut
import Derived.Test.YtdefpcjlbganpaaMDist
import Derived.Lib.SliceRun
import Derived.Lib.SlicesCompact
import Derived.Deep.LoopGhost
import Derived.Deep.DeepCutAuto
import Derived.Deep.CutBlock
import Derived.Deep.RegionWith
import Derived.Test.YtdefpcjlbganpaaFairLaw
import Derived.Test.YtdefpcjlbganpaaSegMath2
namespace Go.Proofs.Ytdefpcjlbganpaa
open Go.RowKit Go.Shelf Go.BigFrame Go.Sort
attribute [local go_sem] Oper.semAt_some
attribute [local go_sem] World.cell?_alloc_some
/-- A list that begins with its second element; or in the opposite order. -/
def trnF (l : List Pt) (back : Bool) (i : Nat) : Pt := if back then pt l (l.length - 1 - i) else pt l ((i + 1) % l.length)
def trnd (l : List Pt) (back : Bool) : List Pt := upto (trnF l back) l.length
theorem trnd_len (l : List Pt) (back : Bool) : (trnd l back).length = l.length := upto_length _ _
set_option maxRecDepth 100000 in
set_option maxHeartbeats 8000000 in
theorem turned_any (q : Option Addr) (cap : Nat) (l : List Pt) (back : Bool) (w : World) (hl : l.length ≤ 1000) (hp : PtsAt w q l) :
    Calls Try.prog 68 #[.slice q l.length cap, .bool back] w fun e w' => ∃ v, e = .returned v ∧ PO w w.heap.size [] v (trnd l back) w' := by
  have HP := Lib.hid hp
  have HP0 := Lib.hid (PO.nil w)
  unfold trnd
  have HF : Hid (∀ i, trnF l back i = if back then pt l (l.length - 1 - i) else pt l ((i + 1) % l.length)) := fun i => rfl
  obtain ⟨f, hf⟩ : ∃ f, trnF l back = f := ⟨_, rfl⟩
  rw [hf] at HF ⊢
  clear hp hf
  go_enter Try.func68, Try.ntmps68
  go_wp2_with fail
  go_loopw [5, 6] (fun v i wr => ∃ (k : Nat), PO w w.heap.size [] v (upto f k) wr ∧ i = .int .i64 (k : Int) ∧ k ≤ l.length) (fun v i wr => l.length - (intOf i).toNat)
  case atStart => exact ⟨0, by simpa [upto] using HP0.out, rfl, Nat.zero_le _⟩
  case round =>
    obtain ⟨k, hPO, rfl, hk⟩ := hrel
    clear HP0
    by_cases hlt : k < l.length
    · rcases HP.out with hnil | ⟨b, o, rfl, hbl, hc⟩
      · rw [hnil] at hlt; simp at hlt
      · have HCC : Hid (∀ j, j < l.length → wr.cell? ⟨b, o + j * 2, none⟩ = some (.int .i64 (pt l j).x) ∧ wr.cell? ⟨b, o + j * 2 + 1, none⟩ = some (.int .i64 (pt l j).y)) := fun j hj => by
          have hq : l[j]? = some (pt l j) := by rw [List.getElem?_eq_getElem hj]; simp [pt, hj]
          obtain ⟨c1, c2⟩ := hc j _ hq
          exact ⟨(hPO.st.b.cell (p := ⟨b, o + j * 2, none⟩) hbl).trans c1, (hPO.st.b.cell (p := ⟨b, o + j * 2 + 1, none⟩) hbl).trans c2⟩
        have hul : (upto f k).length ≤ 1000000 := by rw [upto_length]; omega
        have HUL := Lib.hid hul
        have HPO := Lib.hid hPO
        have HUS : Hid (upto f (k + 1) = upto f k ++ [f k]) := upto_succ f k
        clear hc hul hPO
        cases back
        · obtain ⟨m, hm⟩ : ∃ m : Nat, (k + 1) % l.length = m := ⟨_, rfl⟩
          have hm1 : m < l.length := by rw [← hm]; exact Nat.mod_lt _ (by omega)
          have hm2 : ((k : Int) + 1).tmod (l.length : Int) = (m : Int) := by rw [← hm, Int.tmod_eq_emod_of_nonneg (by omega)]; simp
          have HFk : Hid (f k = pt l m) := by unfold Hid; rw [HF.out, hm]; rfl
          have hw0 : IntKind.i64.wrap ((k : Int) + 1) = (k : Int) + 1 := (wrapEq _).trans (w64 (by omega))
          have hz1 : ¬ ((l.length : Int) = 0) := by omega
          have hz2 : ¬ (l.length = 0) := by omega
          have hz3 : ¬ (l = []) := fun h => by rw [h] at hlt; exact absurd hlt (by simp)
          have hz4 : (m : Int) < (l.length : Int) := by omega
          obtain ⟨g1, g2⟩ := HCC.out m hm1
          obtain ⟨p, hpp⟩ : ∃ p, pt l m = p := ⟨_, rfl⟩
          rw [hpp] at g1 g2 HFk
          clear hm hpp
          go_wp2_with (at_builtin; refine app1 HPO.out p HUL.out rfl _ _ rfl rfl rfl ?_; intro v' w' hPO)
          go_roundw
          case rel => exact ⟨k + 1, by rw [HUS.out, HFk.out]; exact hPO, by simp, by omega⟩
          case measure => simp [intOf]; omega
        · obtain ⟨m, hm⟩ : ∃ m : Nat, l.length - 1 - k = m := ⟨_, rfl⟩
          have hm1 : m < l.length := by omega
          have HFk : Hid (f k = pt l m) := by unfold Hid; rw [HF.out, hm]; rfl
          have hw1 : IntKind.i64.wrap ((l.length : Int) - 1) = (l.length : Int) - 1 := (wrapEq _).trans (w64 (by omega))
          have hw2 : IntKind.i64.wrap ((l.length : Int) - 1 - (k : Int)) = (m : Int) := (wrapEq _).trans ((w64 (by omega)).trans (by omega))
          have hz4 : (m : Int) < (l.length : Int) := by omega
          obtain ⟨g1, g2⟩ := HCC.out m hm1
          obtain ⟨p, hpp⟩ : ∃ p, pt l m = p := ⟨_, rfl⟩
          rw [hpp] at g1 g2 HFk
          clear hm hpp
          go_wp2_with (at_builtin; refine app1 HPO.out p HUL.out rfl _ _ rfl rfl rfl ?_; intro v' w' hPO)
          go_roundw
          case rel => exact ⟨k + 1, by rw [HUS.out, HFk.out]; exact hPO, by simp, by omega⟩
          case measure => simp [intOf]; omega
    · obtain rfl : k = l.length := by omega
      go_wp2_with fail
      go_ret
      exact ⟨_, rfl, hPO⟩
end Go.Proofs.Ytdefpcjlbganpaa
namespace Go.Proofs.Ytdefpcjlbganpaa
open Go.RowKit Go.Shelf Go.BigFrame Go.Sort
attribute [local go_sem] Oper.semAt_some
attribute [local go_sem] World.cell?_alloc_some
/-- What the law of fair rings wants of plain numbers. -/
structure RF (l : List Pt) (p : Pt) : Prop where
  e1 : awr (egs (trnd l false)) = awr (egs l)
  e2 : wrap64 (-(awr (egs (trnd l true)))) = awr (egs l)
  e3 : (egs (trnd l true)).any (oeB p) = (egs l).any (oeB p)
  e4 : wrap64 (-(wnr p (egs (trnd l true)))) = wnr p (egs l)
  e5 : smp l = true → awr (egs l) ≠ 0 ∧ ((egs l).any (oeB p) = false → wnr p (egs l) = 0 ∨ wnr p (egs l) = if awr (egs l) < 0 then -1 else 1)
theorem pt_in (l : List Pt) (j : Nat) (h : j < l.length) : pt l j ∈ l := by
  simp [pt, h]
theorem trnd_ck {l : List Pt} (back : Bool) (h : ck 3 l = 0) : ck 3 (trnd l back) = 0 := by
  obtain ⟨h1, h2, h3⟩ := ck_len h
  refine ck_all (by rw [trnd_len]; omega) (List.all_eq_true.2 fun x hx => ?_)
  obtain ⟨i, hi, rfl⟩ := List.mem_map.1 hx
  have hi' : i < l.length := by simpa using hi
  refine List.all_eq_true.1 h3 _ ?_
  unfold trnF
  split
  · exact pt_in _ _ (by omega)
  · exact pt_in _ _ (Nat.mod_lt _ (by omega))
set_option maxRecDepth 100000 in
set_option maxHeartbeats 16000000 in
theorem ringsFair_of (q : Option Addr) (cap : Nat) (l : List Pt) (p : Pt) (w : World) (hl : l.length ≤ 140737488355327) (hp : PtsAt w q l)
    (hR : ck 3 l = 0 → l.length ≤ 40 → okP p = true → RF l p) :
    Calls Try.prog 12 #[.slice q l.length cap, p.v] w fun e w' => e = .returned (.bool true) ∧ Below w.heap.size w w' := by
  have HP := Lib.hid hp
  have A1 := fun W (hb : Below w.heap.size w W) => Area_any q cap l W hl (HP.out.keep hb)
  have V1 := fun W => Valid_any p W
  by_cases h40 : 40 < l.length
  · obtain ⟨a1, e1, h1⟩ := ar_tup l
    rw [h1] at A1
    have hgd : decide ((40 : Int) < (l.length : Int)) = true := decide_eq_true (by omega)
    clear hR hp HP V1 h1
    go_enter Try.func12, Try.ntmps12
    go_wp2_with fail
    obtain ⟨W0, hW0⟩ : ∃ W0, (w).alloc (.cells #[.int .i64 p.x, .int .i64 p.y] 23) = W0 := ⟨_, rfl⟩
    have S0 : St w W0 [(w.heap.size, 0, .int .i64 p.x), (w.heap.size, 1, .int .i64 p.y)] := by rw [← hW0]; exact ((St.nil w)).box #[.int .i64 p.x, .int .i64 p.y] 23 (w.heap.size) (by simp)
    rw [hW0]
    clear hW0
    obtain ⟨C, hC0, HC, LC, BC, hne⟩ := cls S0
    haveI := hne
    obtain ⟨c0, rfl⟩ : ∃ n : Wd C, W0 = n.w := ⟨⟨_, hC0⟩, rfl⟩
    have fC0 : ∀ n : Wd C, n.w.cell? ⟨w.heap.size, 0, none⟩ = some (.int .i64 p.x) := fun n => (LC.out n).1.2.1
    have fC1 : ∀ n : Wd C, n.w.cell? ⟨w.heap.size, 1, none⟩ = some (.int .i64 p.y) := fun n => (LC.out n).2.1.2.1
    clear S0 hC0
    have D1 := cinL HC BC A1
    have DS := cin HC sanity_any
    clear A1
    go_wp2_with (first | (go_at_call 30; with_reducible refine (D1 _).out.mono ?_; rintro e w' ⟨rfl, n, rfl⟩) | (go_at_call 16; with_reducible refine (DS _).out.mono ?_; rintro e w' ⟨rfl, n, rfl⟩))
    go_ret
    exact ⟨rfl, BC.out _⟩
  · by_cases hck : ck 3 l = 0
    · have h1 : arRes l = .tuple #[.int .i64 (awr (egs l)), .int .i64 0] := by unfold arRes; rw [if_pos hck]
      by_cases hok : okP p = true
      · have HR := Lib.hid (hR hck (by omega) hok)
        obtain ⟨R1, R2, R3, R4, R5⟩ := HR.out
        have k1 := trnd_ck false hck
        have k2 := trnd_ck true hck
        have hlt := trnd_len l
        have h200 : l.length ≤ 40 := by omega
        have T1 : Hid (∀ W, Below w.heap.size w W → _) := fun W hb => turned_any q cap l false W (by omega) (HP.out.keep hb)
        have T2 : Hid (∀ W, Below w.heap.size w W → _) := fun W hb => turned_any q cap l true W (by omega) (HP.out.keep hb)
        have AX : Hid (∀ b W v, PO W W.heap.size [] v (trnd l b) W → True) := fun _ _ _ _ => trivial
        have hA2 : arRes (trnd l false) = .tuple #[.int .i64 (awr (egs l)), .int .i64 0] := by unfold arRes; rw [if_pos k1, R1]
        have hA3 : arRes (trnd l true) = .tuple #[.int .i64 (awr (egs (trnd l true))), .int .i64 0] := by unfold arRes; rw [if_pos k2]
        have hS : smRes l = .tuple #[.bool (smp l), .int .i64 0] := by unfold smRes; rw [if_pos hck]
        obtain ⟨o, ho⟩ : ∃ o, (egs l).any (oeB p) = o := ⟨_, rfl⟩
        rw [ho] at R3 R5
        have hW1 : wnRes l p = if o then .tuple #[.int .i64 0, .int .i64 4] else .tuple #[.int .i64 (wnr p (egs l)), .int .i64 0] := by unfold wnRes; simp [if_pos hck, hok, ho]
        have hW2 : wnRes (trnd l true) p = if o then .tuple #[.int .i64 0, .int .i64 4] else .tuple #[.int .i64 (wnr p (egs (trnd l true))), .int .i64 0] := by unfold wnRes; simp [if_pos k2, hok, R3]
        have hX : whRes l p = if smp l then .tuple #[.int .i64 (if o then 0 else if wnr p (egs l) = 0 then -1 else 1), .int .i64 0] else .tuple #[.int .i64 0, .int .i64 4] := by unfold whRes whr; simp [if_pos hck, hok, ho]
        have S1 := fun W (hb : Below w.heap.size w W) => Simple_any q cap l W hl (HP.out.keep hb)
        have W1 := fun W (hb : Below w.heap.size w W) => Winding_any q cap l p W hl (HP.out.keep hb)
        have X1 := fun W (hb : Below w.heap.size w W) => Where_any q cap l p W hl (HP.out.keep hb)
        have B2 : Hid (∀ a c W, PtsAt W a (trnd l false) → Calls Try.prog 30 #[.slice a l.length c] W fun e w' => e = .returned (.tuple #[.int .i64 (awr (egs l)), .int .i64 0]) ∧ Below W.heap.size W w') := fun a c W h => by
          have := Area_any a c (trnd l false) W (by rw [hlt]; omega) h
          rw [hA2, hlt] at this; exact this
        have B3 : Hid (∀ a c W, PtsAt W a (trnd l true) → Calls Try.prog 30 #[.slice a l.length c] W fun e w' => e = .returned (.tuple #[.int .i64 (awr (egs (trnd l true))), .int .i64 0]) ∧ Below W.heap.size W w') := fun a c W h => by
          have := Area_any a c (trnd l true) W (by rw [hlt]; omega) h
          rw [hA3, hlt] at this; exact this
        have B4 : Hid (∀ a c W, PtsAt W a (trnd l true) → Calls Try.prog 34 #[.slice a l.length c, p.v] W fun e w' => e = .returned (if o then .tuple #[.int .i64 0, .int .i64 4] else .tuple #[.int .i64 (wnr p (egs (trnd l true))), .int .i64 0]) ∧ Below W.heap.size W w') := fun a c W h => by
          have := Winding_any a c (trnd l true) p W (by rw [hlt]; omega) h
          rw [hW2, hlt] at this; exact this
        have T1 : Hid (∀ W, Below w.heap.size w W → Calls Try.prog 68 #[.slice q l.length cap, .bool false] W fun e w' => ∃ a c, e = .returned (.slice a l.length c) ∧ PtsAt w' a (trnd l false) ∧ Below W.heap.size W w') := fun W hb =>
          (turned_any q cap l false W (by omega) (HP.out.keep hb)).mono fun e w' h => by
            obtain ⟨v, rfl, P⟩ := h
            obtain ⟨a, c, rfl, hq⟩ := P.pts
            exact ⟨a, c, by rw [hlt], hq, P.st.b⟩
        have T2 : Hid (∀ W, Below w.heap.size w W → Calls Try.prog 68 #[.slice q l.length cap, .bool true] W fun e w' => ∃ a c, e = .returned (.slice a l.length c) ∧ PtsAt w' a (trnd l true) ∧ Below W.heap.size W w') := fun W hb =>
          (turned_any q cap l true W (by omega) (HP.out.keep hb)).mono fun e w' h => by
            obtain ⟨v, rfl, P⟩ := h
            obtain ⟨a, c, rfl, hq⟩ := P.pts
            exact ⟨a, c, by rw [hlt], hq, P.st.b⟩
        rw [h1] at A1
        rw [hS] at S1
        rw [hW1] at W1
        rw [hX] at X1
        rw [hok] at V1
        obtain ⟨A, hA⟩ : ∃ A, awr (egs l) = A := ⟨_, rfl⟩
        obtain ⟨c, hc⟩ : ∃ A, awr (egs (trnd l true)) = A := ⟨_, rfl⟩
        obtain ⟨n, hn⟩ : ∃ A, wnr p (egs l) = A := ⟨_, rfl⟩
        obtain ⟨v, hv⟩ : ∃ A, wnr p (egs (trnd l true)) = A := ⟨_, rfl⟩
        obtain ⟨s, hs⟩ : ∃ s, smp l = s := ⟨_, rfl⟩
        simp only [hA, hc, hn, hv, hs] at *
        have hgd : decide ((40 : Int) < (l.length : Int)) = false := decide_eq_false (by omega)
        have hwc : IntKind.i64.wrap (-c) = A := (wrapEq _).trans R2
        have hwv : IntKind.i64.wrap (-v) = n := (wrapEq _).trans R4
        clear hR HR hp HP h1 hA2 hA3 hS hW1 hW2 hX ho hA hc hn hv hs k1 k2 hck hok R1 R2 R3 R4 AX
        have HR5 := Lib.hid R5
        have HWC := Lib.hid (And.intro hwc hwv)
        clear R5 hlt h200 h40 hwc hwv
        have tail : Hid (∀ (C : World → Prop) (_ : Nonempty (Wd C)), True) := fun _ _ => trivial
        clear tail
        go_enter Try.func12, Try.ntmps12
        go_wp2_with fail
        obtain ⟨W0, hW0⟩ : ∃ W0, (w).alloc (.cells #[.int .i64 p.x, .int .i64 p.y] 23) = W0 := ⟨_, rfl⟩
        have S0 : St w W0 [(w.heap.size, 0, .int .i64 p.x), (w.heap.size, 1, .int .i64 p.y)] := by rw [← hW0]; exact ((St.nil w)).box #[.int .i64 p.x, .int .i64 p.y] 23 (w.heap.size) (by simp)
        rw [hW0]
        clear hW0
        obtain ⟨C, hC0, HC, LC, BC, hne⟩ := cls S0
        haveI := hne
        obtain ⟨c0, rfl⟩ : ∃ n : Wd C, W0 = n.w := ⟨⟨_, hC0⟩, rfl⟩
        have fC0 : ∀ n : Wd C, n.w.cell? ⟨w.heap.size, 0, none⟩ = some (.int .i64 p.x) := fun n => (LC.out n).1.2.1
        have fC1 : ∀ n : Wd C, n.w.cell? ⟨w.heap.size, 1, none⟩ = some (.int .i64 p.y) := fun n => (LC.out n).2.1.2.1
        clear S0 hC0
        have D1 := cinL HC BC A1
        have D2 := cin HC V1
        have DS := cin HC sanity_any
        have D3 := cinL HC BC S1
        have D4 := cinL HC BC W1
        have D5 := cinL HC BC X1
        clear A1 V1 S1 W1 X1
        go_wp2_with (first | (go_at_call 30; with_reducible refine (D1 _).out.mono ?_; rintro e w' ⟨rfl, n, rfl⟩) | (go_at_call 17; with_reducible refine (D2 _).out.mono ?_; rintro e w' ⟨rfl, n, rfl⟩))
        go_wp2_with (go_at_call 68; with_reducible refine (T1.out _ (BC.out _)).mono ?_; rintro e w1 ⟨a1, c1, rfl, hP, hB⟩)
        have Q1 := Lib.hid hP
        have K1 : Hid (C w1) := HC.out _ _ (Wd.h _) hB
        clear hP hB T1
        go_wp2_with (go_at_call 30; with_reducible refine (B2.out _ _ _ Q1.out).mono ?_; rintro e w2 ⟨rfl, hB⟩; obtain ⟨n2, rfl⟩ : ∃ n : Wd C, w2 = n.w := ⟨⟨w2, HC.out _ _ K1.out hB⟩, rfl⟩; clear hB B2 K1 Q1)
        go_wp2_with (go_at_call 68; with_reducible refine (T2.out _ (BC.out _)).mono ?_; rintro e w1 ⟨a3, c3, rfl, hP, hB⟩)
        have Q1 := Lib.hid hP
        have K1 : Hid (C w1) := HC.out _ _ (Wd.h _) hB
        clear hP hB
        go_wp2_with (go_at_call 30; with_reducible refine (B3.out _ _ _ Q1.out).mono ?_; rintro e w2 ⟨rfl, hB⟩; obtain ⟨n3, rfl⟩ : ∃ n : Wd C, w2 = n.w := ⟨⟨w2, HC.out _ _ K1.out hB⟩, rfl⟩; clear hB B3 K1 Q1)
        cases o
        · simp only [Bool.false_eq_true, if_false] at D4 B4 D5 HR5
          go_wp2_with (first | (go_at_call 34; with_reducible refine (D4 _).out.mono ?_; rintro e w' ⟨rfl, n, rfl⟩))
          go_region_with (first
            | (go_at_call 68; with_reducible refine (T2.out _ (BC.out ⟨_, HC.out _ _ (Wd.h _) (below_dr _)⟩)).mono ?_; rintro e w1 ⟨a5, c5, rfl, hP, hB⟩
               obtain ⟨n4, rfl⟩ : ∃ n : Wd C, w1 = n.w := ⟨⟨w1, HC.out _ _ (HC.out _ _ (Wd.h _) (below_dr _)) hB⟩, rfl⟩)
            | (go_at_call 34; with_reducible refine (B4.out _ _ _ hP).mono ?_; rintro e w2 ⟨rfl, hB2⟩
               obtain ⟨n5, rfl⟩ : ∃ n : Wd C, w2 = n.w := ⟨⟨w2, HC.out _ _ (Wd.h _) hB2⟩, rfl⟩))
          all_goals
            clear T2 B4 D4 D1 D2
            obtain ⟨hwc, hwv⟩ := HWC.out
            cases s
            · simp only [Bool.false_eq_true, if_false] at D3 D5
              go_wp2_with (first | (go_at_call 32; with_reducible refine (D3 _).out.mono ?_; rintro e w' ⟨rfl, n, rfl⟩) | (go_at_call 36; with_reducible refine (D5 _).out.mono ?_; rintro e w' ⟨rfl, n, rfl⟩) | (go_at_call 16; with_reducible refine (DS _).out.mono ?_; rintro e w' ⟨rfl, n, rfl⟩))
              go_ret
              exact ⟨rfl, BC.out _⟩
            · obtain ⟨hA0, hn⟩ := HR5.out rfl
              have hA1 : (A == 0) = false := by simpa using hA0
              have hA2 : (A != 0) = true := by simpa using hA0
              simp only [if_true] at D5
              rcases hn trivial with hn | hn
              · subst hn
                simp only [if_true] at D5
                by_cases hA : A < 0
                · go_wp2_with (first | (go_at_call 32; with_reducible refine (D3 _).out.mono ?_; rintro e w' ⟨rfl, n, rfl⟩) | (go_at_call 36; with_reducible refine (D5 _).out.mono ?_; rintro e w' ⟨rfl, n, rfl⟩) | (go_at_call 16; with_reducible refine (DS _).out.mono ?_; rintro e w' ⟨rfl, n, rfl⟩))
                  go_ret
                  exact ⟨rfl, BC.out _⟩
                · go_wp2_with (first | (go_at_call 32; with_reducible refine (D3 _).out.mono ?_; rintro e w' ⟨rfl, n, rfl⟩) | (go_at_call 36; with_reducible refine (D5 _).out.mono ?_; rintro e w' ⟨rfl, n, rfl⟩) | (go_at_call 16; with_reducible refine (DS _).out.mono ?_; rintro e w' ⟨rfl, n, rfl⟩))
                  go_ret
                  exact ⟨rfl, BC.out _⟩
              · by_cases hA : A < 0
                · rw [if_pos hA] at hn
                  subst hn
                  simp only [show ¬ (-1 : Int) = 0 from by decide, if_false] at D5
                  go_wp2_with (first | (go_at_call 32; with_reducible refine (D3 _).out.mono ?_; rintro e w' ⟨rfl, n, rfl⟩) | (go_at_call 36; with_reducible refine (D5 _).out.mono ?_; rintro e w' ⟨rfl, n, rfl⟩) | (go_at_call 16; with_reducible refine (DS _).out.mono ?_; rintro e w' ⟨rfl, n, rfl⟩))
                  go_ret
                  exact ⟨rfl, BC.out _⟩
                · rw [if_neg hA] at hn
                  subst hn
                  simp only [show ¬ (1 : Int) = 0 from by decide, if_false] at D5
                  go_wp2_with (first | (go_at_call 32; with_reducible refine (D3 _).out.mono ?_; rintro e w' ⟨rfl, n, rfl⟩) | (go_at_call 36; with_reducible refine (D5 _).out.mono ?_; rintro e w' ⟨rfl, n, rfl⟩) | (go_at_call 16; with_reducible refine (DS _).out.mono ?_; rintro e w' ⟨rfl, n, rfl⟩))
                  go_ret
                  exact ⟨rfl, BC.out _⟩
        · simp only [if_true] at D4 B4 D5 HR5
          go_wp2_with (first | (go_at_call 34; with_reducible refine (D4 _).out.mono ?_; rintro e w' ⟨rfl, n, rfl⟩))
          go_region_with (first
            | (go_at_call 68; with_reducible refine (T2.out _ (BC.out ⟨_, HC.out _ _ (Wd.h _) (below_dr _)⟩)).mono ?_; rintro e w1 ⟨a5, c5, rfl, hP, hB⟩
               obtain ⟨n4, rfl⟩ : ∃ n : Wd C, w1 = n.w := ⟨⟨w1, HC.out _ _ (HC.out _ _ (Wd.h _) (below_dr _)) hB⟩, rfl⟩)
            | (go_at_call 34; with_reducible refine (B4.out _ _ _ hP).mono ?_; rintro e w2 ⟨rfl, hB2⟩
               obtain ⟨n5, rfl⟩ : ∃ n : Wd C, w2 = n.w := ⟨⟨w2, HC.out _ _ (Wd.h _) hB2⟩, rfl⟩))
          all_goals
            clear T2 B4 D4 D1 D2
            obtain ⟨hwc, hwv⟩ := HWC.out
            cases s
            · simp only [Bool.false_eq_true, if_false] at D3 D5
              go_wp2_with (first | (go_at_call 32; with_reducible refine (D3 _).out.mono ?_; rintro e w' ⟨rfl, n, rfl⟩) | (go_at_call 36; with_reducible refine (D5 _).out.mono ?_; rintro e w' ⟨rfl, n, rfl⟩) | (go_at_call 16; with_reducible refine (DS _).out.mono ?_; rintro e w' ⟨rfl, n, rfl⟩))
              go_ret
              exact ⟨rfl, BC.out _⟩
            · obtain ⟨hA0, hn⟩ := HR5.out rfl
              have hA1 : (A == 0) = false := by simpa using hA0
              have hA2 : (A != 0) = true := by simpa using hA0
              simp only [if_true] at D5
              by_cases hA : A < 0
              · go_wp2_with (first | (go_at_call 32; with_reducible refine (D3 _).out.mono ?_; rintro e w' ⟨rfl, n, rfl⟩) | (go_at_call 36; with_reducible refine (D5 _).out.mono ?_; rintro e w' ⟨rfl, n, rfl⟩) | (go_at_call 16; with_reducible refine (DS _).out.mono ?_; rintro e w' ⟨rfl, n, rfl⟩))
                go_ret
                exact ⟨rfl, BC.out _⟩
              · go_wp2_with (first | (go_at_call 32; with_reducible refine (D3 _).out.mono ?_; rintro e w' ⟨rfl, n, rfl⟩) | (go_at_call 36; with_reducible refine (D5 _).out.mono ?_; rintro e w' ⟨rfl, n, rfl⟩) | (go_at_call 16; with_reducible refine (DS _).out.mono ?_; rintro e w' ⟨rfl, n, rfl⟩))
                go_ret
                exact ⟨rfl, BC.out _⟩
      · have hok' : okP p = false := by simpa using hok
        obtain ⟨a1, ha⟩ : ∃ a, awr (egs l) = a := ⟨_, rfl⟩
        rw [h1, ha] at A1
        rw [hok'] at V1
        have hgd : decide ((40 : Int) < (l.length : Int)) = false := decide_eq_false (by omega)
        clear hR hp HP h1 ha hok hok'
        go_enter Try.func12, Try.ntmps12
        go_wp2_with fail
        obtain ⟨W0, hW0⟩ : ∃ W0, (w).alloc (.cells #[.int .i64 p.x, .int .i64 p.y] 23) = W0 := ⟨_, rfl⟩
        have S0 : St w W0 [(w.heap.size, 0, .int .i64 p.x), (w.heap.size, 1, .int .i64 p.y)] := by rw [← hW0]; exact ((St.nil w)).box #[.int .i64 p.x, .int .i64 p.y] 23 (w.heap.size) (by simp)
        rw [hW0]
        clear hW0
        obtain ⟨C, hC0, HC, LC, BC, hne⟩ := cls S0
        haveI := hne
        obtain ⟨c0, rfl⟩ : ∃ n : Wd C, W0 = n.w := ⟨⟨_, hC0⟩, rfl⟩
        have fC0 : ∀ n : Wd C, n.w.cell? ⟨w.heap.size, 0, none⟩ = some (.int .i64 p.x) := fun n => (LC.out n).1.2.1
        have fC1 : ∀ n : Wd C, n.w.cell? ⟨w.heap.size, 1, none⟩ = some (.int .i64 p.y) := fun n => (LC.out n).2.1.2.1
        clear S0 hC0
        have D1 := cinL HC BC A1
        have D2 := cin HC V1
        have DS := cin HC sanity_any
        clear A1 V1
        go_wp2_with (first | (go_at_call 30; with_reducible refine (D1 _).out.mono ?_; rintro e w' ⟨rfl, n, rfl⟩) | (go_at_call 17; with_reducible refine (D2 _).out.mono ?_; rintro e w' ⟨rfl, n, rfl⟩) | (go_at_call 16; with_reducible refine (DS _).out.mono ?_; rintro e w' ⟨rfl, n, rfl⟩))
        go_ret
        exact ⟨rfl, BC.out _⟩
    · have h1 : arRes l = .tuple #[.int .i64 0, .int .i64 (ck 3 l)] := by unfold arRes; rw [if_neg hck]
      obtain ⟨c, hc⟩ : ∃ c, ck 3 l = c := ⟨_, rfl⟩
      rw [h1] at A1
      simp only [hc] at A1 hck
      have hgd : decide ((40 : Int) < (l.length : Int)) = false := decide_eq_false (by omega)
      have he' : (c == 0) = false := by simpa using hck
      have he2 : (c != 0) = true := by simpa using hck
      clear hR hp HP V1 h1 hc
      go_enter Try.func12, Try.ntmps12
      go_wp2_with fail
      obtain ⟨W0, hW0⟩ : ∃ W0, (w).alloc (.cells #[.int .i64 p.x, .int .i64 p.y] 23) = W0 := ⟨_, rfl⟩
      have S0 : St w W0 [(w.heap.size, 0, .int .i64 p.x), (w.heap.size, 1, .int .i64 p.y)] := by rw [← hW0]; exact ((St.nil w)).box #[.int .i64 p.x, .int .i64 p.y] 23 (w.heap.size) (by simp)
      rw [hW0]
      clear hW0
      obtain ⟨C, hC0, HC, LC, BC, hne⟩ := cls S0
      haveI := hne
      obtain ⟨c0, rfl⟩ : ∃ n : Wd C, W0 = n.w := ⟨⟨_, hC0⟩, rfl⟩
      have fC0 : ∀ n : Wd C, n.w.cell? ⟨w.heap.size, 0, none⟩ = some (.int .i64 p.x) := fun n => (LC.out n).1.2.1
      have fC1 : ∀ n : Wd C, n.w.cell? ⟨w.heap.size, 1, none⟩ = some (.int .i64 p.y) := fun n => (LC.out n).2.1.2.1
      clear S0 hC0
      have D1 := cinL HC BC A1
      have DS := cin HC sanity_any
      clear A1
      go_wp2_with (first | (go_at_call 30; with_reducible refine (D1 _).out.mono ?_; rintro e w' ⟨rfl, n, rfl⟩) | (go_at_call 16; with_reducible refine (DS _).out.mono ?_; rintro e w' ⟨rfl, n, rfl⟩))
      go_ret
      exact ⟨rfl, BC.out _⟩
end Go.Proofs.Ytdefpcjlbganpaa
namespace Go.Proofs.Ytdefpcjlbganpaa
open Go.RowKit Go.Shelf Go.BigFrame Go.Sort
attribute [local go_sem] Oper.semAt_some
attribute [local go_sem] World.cell?_alloc_some
/-- A sum. -/
def smI (F : Nat → Int) : Nat → Int
  | 0 => 0
  | n + 1 => smI F n + F n
theorem smI_congr {F G : Nat → Int} : ∀ {n : Nat}, (∀ i, i < n → F i = G i) → smI F n = smI G n
  | 0, _ => rfl
  | n + 1, h => by rw [smI, smI, smI_congr (fun i hi => h i (by omega)), h n (by omega)]
theorem smI_neg (F : Nat → Int) : ∀ n, smI (fun i => -F i) n = -smI F n
  | 0 => rfl
  | n + 1 => by rw [smI, smI, smI_neg F n]; omega
theorem smI_head (F : Nat → Int) : ∀ n, smI F (n + 1) = F 0 + smI (fun i => F (i + 1)) n
  | 0 => by simp [smI]
  | n + 1 => by rw [smI, smI_head F n, smI]; omega
theorem smI_shift (F : Nat → Int) (n : Nat) : smI (fun i => F ((i + 1) % n)) n = smI F n := by
  cases n with
  | zero => rfl
  | succ m =>
    rw [smI, smI_head F m, Nat.mod_self, smI_congr (G := fun i => F (i + 1)) (fun i hi => by rw [Nat.mod_eq_of_lt (by omega)])]
    omega
theorem smI_rev (F : Nat → Int) : ∀ n, smI (fun i => F (n - 1 - i)) n = smI F n
  | 0 => rfl
  | n + 1 => by
    rw [smI_head, smI]
    have := smI_rev F n
    rw [smI_congr (G := fun i => F (n - 1 - i)) (fun i hi => by rw [show n + 1 - 1 - (i + 1) = n - 1 - i from by omega]), this]
    simp only [Nat.add_sub_cancel, Nat.sub_zero]
    omega
theorem smI_le {F : Nat → Int} {M : Int} : ∀ {n : Nat}, (∀ i, i < n → -M ≤ F i ∧ F i ≤ M) → -(M * n) ≤ smI F n ∧ smI F n ≤ M * n
  | 0, _ => by simp [smI]
  | n + 1, h => by
    have h1 := smI_le (n := n) (fun i hi => h i (by omega))
    have h2 := h n (by omega)
    have : M * ((n + 1 : Nat) : Int) = M * n + M := by grind
    rw [smI, this]; omega
/-- A fold that adds, and does not wrap around. -/
theorem fold_smI {f : Nat → Nat × Sg} {step : Int → Nat × Sg → Int} {F : Nat → Int} {M : Int} (hM : 0 ≤ M) : ∀ {n : Nat}, (∀ i, i < n → -M ≤ F i ∧ F i ≤ M) →
    (∀ i s, i < n → -(M * (i : Int)) ≤ s ∧ s ≤ M * (i : Int) → step s (f i) = s + F i) → (upto f n).foldl step 0 = smI F n
  | 0, _, _ => rfl
  | n + 1, h, hs => by
    have h1 := fold_smI (n := n) hM (fun i hi => h i (by omega)) (fun i s hi hb => hs i s (by omega) hb)
    rw [upto_succ, List.foldl_append, h1]
    exact hs n _ (by omega) (smI_le (n := n) (fun i hi => h i (by omega)))
/-- An edge's part of the area, and of the winding. -/
def crs (x : Sg) : Int := x.a.x * x.b.y - x.b.x * x.a.y
def wdg (p : Pt) (x : Sg) : Int := if x.a.y ≤ p.y ∧ p.y < x.b.y ∧ 0 < trn x.a x.b p then 1 else if p.y < x.a.y ∧ x.b.y ≤ p.y ∧ trn x.a x.b p < 0 then -1 else 0
theorem crs_bk (x : Sg) : crs (bk x) = -crs x := by
  unfold crs bk; simp only; grind
theorem wdg_bk (p : Pt) (x : Sg) : wdg p (bk x) = -wdg p x := by
  unfold wdg bk; simp only
  rw [trn_swap1]
  split <;> split <;> (try split) <;> omega
theorem okc_b {n : Int} (h : okC n = true) : -1048576 ≤ n ∧ n ≤ 1048576 := okC_iff.1 h
theorem mul_b {a b M : Int} (ha : -M ≤ a ∧ a ≤ M) (hb : -M ≤ b ∧ b ≤ M) : -(M * M) ≤ a * b ∧ a * b ≤ M * M := by
  obtain ⟨a1, a2⟩ := ha
  obtain ⟨b1, b2⟩ := hb
  have p1 := Int.mul_nonneg (show 0 ≤ M - a by omega) (show 0 ≤ M + b by omega)
  have p2 := Int.mul_nonneg (show 0 ≤ M + a by omega) (show 0 ≤ M - b by omega)
  have p3 := Int.mul_nonneg (show 0 ≤ M - a by omega) (show 0 ≤ M - b by omega)
  have p4 := Int.mul_nonneg (show 0 ≤ M + a by omega) (show 0 ≤ M + b by omega)
  constructor <;> grind
theorem awr_smI {l : List Pt} (h : ck 3 l = 0) : awr (egs l) = smI (fun i => crs (eg l i)) l.length ∧ -(2199023255552 * (l.length : Int)) ≤ smI (fun i => crs (eg l i)) l.length ∧ smI (fun i => crs (eg l i)) l.length ≤ 2199023255552 * (l.length : Int) := by
  obtain ⟨h1, h2, h3⟩ := ck_len h
  have hok := List.all_eq_true.1 h3
  have hb : ∀ i, i < l.length → (-1099511627776 ≤ (eg l i).a.x * (eg l i).b.y ∧ (eg l i).a.x * (eg l i).b.y ≤ 1099511627776) ∧ (-1099511627776 ≤ (eg l i).b.x * (eg l i).a.y ∧ (eg l i).b.x * (eg l i).a.y ≤ 1099511627776) := fun i hi => by
    have o1 := hok _ (pt_in l i hi)
    have o2 := hok _ (pt_in l ((i + 1) % l.length) (Nat.mod_lt _ (by omega)))
    unfold okP at o1 o2
    rw [Bool.and_eq_true] at o1 o2
    exact ⟨mul_b (M := 1048576) (okc_b o1.1) (okc_b o2.2), mul_b (M := 1048576) (okc_b o2.1) (okc_b o1.2)⟩
  have hc : ∀ i, i < l.length → -2199023255552 ≤ crs (eg l i) ∧ crs (eg l i) ≤ 2199023255552 := fun i hi => by
    obtain ⟨⟨a1, a2⟩, b1, b2⟩ := hb i hi
    unfold crs; omega
  refine ⟨fold_smI (M := 2199023255552) (by decide) hc (fun i s hi hs => ?_), smI_le hc⟩
  obtain ⟨⟨a1, a2⟩, b1, b2⟩ := hb i hi
  have hi2 : (i : Int) ≤ 200 := by omega
  unfold awStep crs
  simp only
  have u1 : wrap64 ((eg l i).a.x * (eg l i).b.y) = (eg l i).a.x * (eg l i).b.y := w64 (by omega)
  have u2 : wrap64 ((eg l i).b.x * (eg l i).a.y) = (eg l i).b.x * (eg l i).a.y := w64 (by omega)
  rw [u1, u2]
  have u3 : wrap64 ((eg l i).a.x * (eg l i).b.y - (eg l i).b.x * (eg l i).a.y) = (eg l i).a.x * (eg l i).b.y - (eg l i).b.x * (eg l i).a.y := w64 (by omega)
  rw [u3]
  exact w64 (by omega)
theorem wdg_b (p : Pt) (x : Sg) : -1 ≤ wdg p x ∧ wdg p x ≤ 1 := by unfold wdg; split <;> (try split) <;> omega
theorem wnr_smI {l : List Pt} (p : Pt) (h : ck 3 l = 0) : wnr p (egs l) = smI (fun i => wdg p (eg l i)) l.length ∧ -(1 * (l.length : Int)) ≤ smI (fun i => wdg p (eg l i)) l.length ∧ smI (fun i => wdg p (eg l i)) l.length ≤ 1 * (l.length : Int) := by
  obtain ⟨h1, h2, h3⟩ := ck_len h
  refine ⟨fold_smI (M := 1) (by decide) (fun i _ => wdg_b p _) (fun i s hi hs => ?_), smI_le (fun i _ => wdg_b p _)⟩
  have hi2 : (i : Int) ≤ 200 := by omega
  unfold wnStep wdg
  simp only
  split
  · rw [w64 (by omega)]
  · split
    · rw [w64 (by omega)]; omega
    · omega
theorem upto_get {α : Type} (f : Nat → α) (n j : Nat) (h : j < n) : (upto f n)[j]? = some (f j) := by simp [upto, h]
theorem pt_trnd (l : List Pt) (back : Bool) (j : Nat) (h : j < l.length) : pt (trnd l back) j = trnF l back j := by
  unfold pt trnd
  rw [List.getD_eq_getElem?_getD, upto_get _ _ _ h]; rfl
/-- The edges of the list that begins with the second point; those of the list in the opposite order. -/
theorem eg_first (l : List Pt) (j : Nat) (h : j < l.length) : eg (trnd l false) j = eg l ((j + 1) % l.length) := by
  unfold eg
  rw [trnd_len, pt_trnd l false j h, pt_trnd l false _ (Nat.mod_lt _ (by omega))]
  rfl
theorem eg_back (l : List Pt) (j : Nat) (h : j < l.length) : eg (trnd l true) j = bk (eg l (l.length - 1 - (j + 1) % l.length)) := by
  have hm : (j + 1) % l.length < l.length := Nat.mod_lt _ (by omega)
  have e : (l.length - 1 - (j + 1) % l.length + 1) % l.length = l.length - 1 - j := by
    rcases Nat.lt_or_ge (j + 1) l.length with hj | hj
    · rw [Nat.mod_eq_of_lt hj, Nat.mod_eq_of_lt (by omega)]; omega
    · have : j + 1 = l.length := by omega
      rw [this, Nat.mod_self, show l.length - 1 - 0 + 1 = l.length from by omega, Nat.mod_self]; omega
  unfold eg bk
  rw [trnd_len, pt_trnd l true j h, pt_trnd l true _ hm, e]
  rfl
theorem smI_back {α : Type} (F G : α → Int) (f g : Nat → α) (n : Nat) (h : ∀ j, j < n → F (g j) = -G (f (n - 1 - (j + 1) % n))) : smI (fun j => F (g j)) n = -smI (fun j => G (f j)) n := by
  rw [smI_congr h, smI_neg, smI_shift (fun i => G (f (n - 1 - i))) n, smI_rev (fun i => G (f i)) n]
theorem rf_e1 {l : List Pt} (h : ck 3 l = 0) : awr (egs (trnd l false)) = awr (egs l) := by
  rw [(awr_smI (trnd_ck false h)).1, (awr_smI h).1, trnd_len, smI_congr (G := fun i => crs (eg l ((i + 1) % l.length))) (fun i hi => by rw [eg_first l i hi]), smI_shift (fun i => crs (eg l i))]
theorem rf_e2 {l : List Pt} (h : ck 3 l = 0) : wrap64 (-(awr (egs (trnd l true)))) = awr (egs l) := by
  obtain ⟨h1, h2, h3⟩ := awr_smI h
  obtain ⟨_, hl, _⟩ := ck_len h
  rw [(awr_smI (trnd_ck true h)).1, h1, trnd_len, smI_back crs crs (eg l) (eg (trnd l true)) l.length (fun j hj => by rw [eg_back l j hj, crs_bk])]
  rw [Int.neg_neg, w64 (by omega)]
theorem rf_e4 {l : List Pt} (p : Pt) (h : ck 3 l = 0) : wrap64 (-(wnr p (egs (trnd l true)))) = wnr p (egs l) := by
  obtain ⟨h1, h2, h3⟩ := wnr_smI p h
  obtain ⟨_, hl, _⟩ := ck_len h
  rw [(wnr_smI p (trnd_ck true h)).1, h1, trnd_len, smI_back (wdg p) (wdg p) (eg l) (eg (trnd l true)) l.length (fun j hj => by rw [eg_back l j hj, wdg_bk])]
  rw [Int.neg_neg, w64 (by omega)]
theorem onS_bk (s : Sg) (p : Pt) : onS (bk s) p = onS s p := by
  rw [Bool.eq_iff_iff, onS_iff, onS_iff, okG_bk]
  exact ⟨fun h => ⟨h.1, onL_bk h.2⟩, fun h => ⟨h.1, onL_bk h.2⟩⟩
theorem egs_any (l : List Pt) (P : Sg → Bool) : ((egs l).any fun x => P x.2) = true ↔ ∃ j, j < l.length ∧ P (eg l j) = true := by
  rw [List.any_eq_true]
  constructor
  · rintro ⟨x, hx, h⟩
    obtain ⟨j, hj, rfl⟩ := List.mem_map.1 hx
    exact ⟨j, by simpa using hj, h⟩
  · rintro ⟨j, hj, h⟩
    exact ⟨(j, eg l j), List.mem_map.2 ⟨j, by simpa using hj, rfl⟩, h⟩
theorem rf_e3 {l : List Pt} (p : Pt) (h : ck 3 l = 0) : (egs (trnd l true)).any (oeB p) = (egs l).any (oeB p) := by
  obtain ⟨h1, _, _⟩ := ck_len h
  have e1 := egs_any l (fun x => decide (x.a = p) || onS x p)
  have e2 := egs_any (trnd l true) (fun x => decide (x.a = p) || onS x p)
  rw [Bool.eq_iff_iff]
  refine e2.trans (Iff.trans ?_ e1.symm)
  rw [trnd_len]
  have key : ∀ j, j < l.length → ∃ i, i < l.length ∧ l.length - 1 - (i + 1) % l.length = j := fun j hj => by
    rcases Nat.lt_or_ge j (l.length - 1) with hlt | hge
    · exact ⟨l.length - 2 - j, by omega, by rw [Nat.mod_eq_of_lt (by omega)]; omega⟩
    · exact ⟨l.length - 1, by omega, by rw [show l.length - 1 + 1 = l.length from by omega, Nat.mod_self]; omega⟩
  constructor
  · rintro ⟨j, hj, hb⟩
    rw [Bool.or_eq_true] at hb
    rcases hb with hb | hb
    · refine ⟨l.length - 1 - j, by omega, ?_⟩
      have : (eg (trnd l true) j).a = pt l (l.length - 1 - j) := pt_trnd l true j hj
      rw [this] at hb
      show (decide (pt l (l.length - 1 - j) = p) || _) = true
      rw [hb]; rfl
    · rw [eg_back l j hj, onS_bk] at hb
      exact ⟨l.length - 1 - (j + 1) % l.length, by omega, by rw [hb]; simp⟩
  · rintro ⟨j, hj, hb⟩
    rw [Bool.or_eq_true] at hb
    rcases hb with hb | hb
    · refine ⟨l.length - 1 - j, by omega, ?_⟩
      have : (eg (trnd l true) (l.length - 1 - j)).a = pt l j := by
        rw [show (eg (trnd l true) (l.length - 1 - j)).a = pt (trnd l true) (l.length - 1 - j) from rfl, pt_trnd l true _ (by omega)]
        show pt l (l.length - 1 - (l.length - 1 - j)) = _
        rw [show l.length - 1 - (l.length - 1 - j) = j from by omega]
      rw [this]
      have hb' : decide (pt l j = p) = true := hb
      rw [hb']; rfl
    · obtain ⟨i, hi, e⟩ := key j hj
      refine ⟨i, hi, ?_⟩
      rw [eg_back l i hi, e, onS_bk, hb]; simp
end Go.Proofs.Ytdefpcjlbganpaa
namespace Go.Proofs.Ytdefpcjlbganpaa
open Go.RowKit Go.Shelf Go.BigFrame Go.Sort
attribute [local go_sem] Oper.semAt_some
attribute [local go_sem] World.cell?_alloc_some
namespace JD
/-- A height: no two valid points share one. -/
def hh (p : Pt) : Int := 4194304 * p.y - p.x
theorem hh_inj {p q : Pt} (hp : okP p = true) (hq : okP q = true) (h : hh p = hh q) : p = q := by
  obtain ⟨x, y⟩ := p
  obtain ⟨u, v⟩ := q
  unfold okP at hp hq
  rw [Bool.and_eq_true] at hp hq
  have a1 := okc_b hp.1
  have a2 := okc_b hp.2
  have b1 := okc_b hq.1
  have b2 := okc_b hq.2
  unfold hh at h
  simp only at *
  have e1 : y = v := by omega
  have e2 : x = u := by omega
  rw [e1, e2]
def dl (e : Sg) : Int := hh e.b - hh e.a
/-- How far the one lies right of the other at a height. -/
def GG (e f : Sg) (t : Int) : Int := dl e * (f.a.x * dl f + (f.b.x - f.a.x) * (t - hh f.a)) - dl f * (e.a.x * dl e + (e.b.x - e.a.x) * (t - hh e.a))
theorem gg_ea (e f : Sg) : GG e f (hh e.a) = dl e * (4194304 * ar f.a f.b e.a) := by unfold GG dl hh ar; grind
theorem gg_eb (e f : Sg) : GG e f (hh e.b) = dl e * (4194304 * ar f.a f.b e.b) := by unfold GG dl hh ar; grind
theorem gg_fa (e f : Sg) : GG e f (hh f.a) = -(dl f * (4194304 * ar e.a e.b f.a)) := by unfold GG dl hh ar; grind
theorem gg_fb (e f : Sg) : GG e f (hh f.b) = -(dl f * (4194304 * ar e.a e.b f.b)) := by unfold GG dl hh ar; grind
theorem gg_neg (e f : Sg) (t : Int) : GG f e t = -GG e f t := by unfold GG; grind
theorem gg_mix (e f : Sg) (a b t : Int) : GG e f t * (b - a) = GG e f a * (b - t) + GG e f b * (t - a) := by unfold GG; grind
theorem mul_pos_iff {d x : Int} (hd : 0 < d) : 0 < d * (4194304 * x) ↔ 0 < x := by
  constructor
  · intro h
    rcases Int.lt_or_le 0 x with hx | hx
    · exact hx
    · have := Int.mul_nonpos_of_nonneg_of_nonpos (Int.le_of_lt hd) (show 4194304 * x ≤ 0 by omega); omega
  · intro h
    exact Int.mul_pos hd (by omega)
theorem mul_neg_iff {d x : Int} (hd : 0 < d) : d * (4194304 * x) < 0 ↔ x < 0 := by
  have := mul_pos_iff (d := d) (x := -x) hd
  have e : d * (4194304 * -x) = -(d * (4194304 * x)) := by grind
  rw [e] at this; omega
theorem mul_zero_iff {d x : Int} (hd : 0 < d) : d * (4194304 * x) = 0 ↔ x = 0 := by
  have h1 := mul_pos_iff (d := d) (x := x) hd
  have h2 := mul_neg_iff (d := d) (x := x) hd
  omega
/-- Signs of what changes evenly. -/
theorem gg_low {e f : Sg} {a b t : Int} (hab : a < b) (ha : 0 < GG e f a) (hb : GG e f b < 0) (ht : t ≤ a) : 0 < GG e f t := by
  have h := gg_mix e f a b t
  have h1 := Int.mul_pos ha (show 0 < b - t by omega)
  have h2 := Int.mul_nonneg_of_nonpos_of_nonpos (Int.le_of_lt hb) (show t - a ≤ 0 by omega)
  rcases Int.lt_or_le 0 (GG e f t) with h0 | h0
  · exact h0
  · have := Int.mul_nonpos_of_nonpos_of_nonneg h0 (show 0 ≤ b - a by omega); omega
theorem gg_high {e f : Sg} {a b t : Int} (hab : a < b) (ha : 0 < GG e f a) (hb : GG e f b < 0) (ht : b ≤ t) : GG e f t < 0 := by
  have h := gg_mix e f a b t
  have h1 := Int.mul_nonpos_of_nonneg_of_nonpos (Int.le_of_lt ha) (show b - t ≤ 0 by omega)
  have h2 := Int.mul_neg_of_neg_of_pos hb (show 0 < t - a by omega)
  rcases Int.lt_or_le (GG e f t) 0 with h0 | h0
  · exact h0
  · have := Int.mul_nonneg h0 (show 0 ≤ b - a by omega); omega
theorem gg_mid {e f : Sg} {a b t : Int} (hab : a < b) (ha : 0 ≤ GG e f a) (hb : 0 ≤ GG e f b) (h1 : a ≤ t) (h2 : t ≤ b) : 0 ≤ GG e f t := by
  have h := gg_mix e f a b t
  have h3 := Int.mul_nonneg ha (show 0 ≤ b - t by omega)
  have h4 := Int.mul_nonneg hb (show 0 ≤ t - a by omega)
  rcases Int.lt_or_le (GG e f t) 0 with h0 | h0
  · have := Int.mul_neg_of_neg_of_pos h0 (show 0 < b - a by omega); omega
  · exact h0
/-- A point of the line, between the heights. -/
theorem onL_h {a b q : Pt} (h0 : ar a b q = 0) (hab : hh a < hh b) (h1 : hh a ≤ hh q) (h2 : hh q ≤ hh b) : onL a b q := by
  have mx := mid (D := hh b - hh a) (N := hh q - hh a) (E := b.x - a.x) (M := q.x - a.x) (by unfold ar at h0; unfold hh; grind) (by omega) (by omega) (by omega)
  have my := mid (D := hh b - hh a) (N := hh q - hh a) (E := b.y - a.y) (M := q.y - a.y) (by unfold ar at h0; unfold hh; grind) (by omega) (by omega) (by omega)
  exact ⟨h0, by omega, by omega⟩
def Up (e : Sg) : Prop := hh e.a < hh e.b
theorem Up.d {e : Sg} (h : Up e) : 0 < dl e := by unfold Up at h; unfold dl; omega
def bot (e f : Sg) : Int := max (hh e.a) (hh f.a)
def top (e f : Sg) : Int := min (hh e.b) (hh f.b)
theorem bot_end {e f : Sg} (he : Up e) (hf : Up f) (h : bot e f ≤ top e f) (h0 : GG e f (bot e f) = 0) : ∃ p, hh p = bot e f ∧ IsEnd e f p := by
  unfold bot top at *
  rcases Int.le_total (hh f.a) (hh e.a) with hl | hl
  · rw [Int.max_eq_left hl] at *
    rw [gg_ea, mul_zero_iff he.d] at h0
    exact ⟨e.a, rfl, .inl ⟨rfl, onL_h h0 hf hl (by omega)⟩⟩
  · rw [Int.max_eq_right hl] at *
    rw [gg_fa, Int.neg_eq_zero, mul_zero_iff hf.d] at h0
    exact ⟨f.a, rfl, .inr (.inr (.inl ⟨rfl, onL_h h0 he hl (by omega)⟩))⟩
theorem top_end {e f : Sg} (he : Up e) (hf : Up f) (h : bot e f ≤ top e f) (h0 : GG e f (top e f) = 0) : ∃ p, hh p = top e f ∧ IsEnd e f p := by
  unfold bot top at *
  rcases Int.le_total (hh f.b) (hh e.b) with hl | hl
  · rw [Int.min_eq_right hl] at *
    rw [gg_fb, Int.neg_eq_zero, mul_zero_iff hf.d] at h0
    exact ⟨f.b, rfl, .inr (.inr (.inr ⟨rfl, onL_h h0 he (by omega) hl⟩))⟩
  · rw [Int.min_eq_left hl] at *
    rw [gg_eb, mul_zero_iff he.d] at h0
    exact ⟨e.b, rfl, .inr (.inl ⟨rfl, onL_h h0 hf (by omega) hl⟩)⟩
theorem sg_pos {n : Int} (h : 0 < n) : sg n = 1 := by unfold sg; rw [if_pos h]
theorem sg_ne {n : Int} (h : n < 0) : sg n = -1 := by unfold sg; rw [if_neg (by omega), if_pos h]
theorem crossed {e f : Sg} (he : Up e) (hf : Up f) (h : bot e f < top e f) (ha : 0 < GG e f (bot e f)) (hb : GG e f (top e f) < 0) : Cross e f := by
  have b1 : hh e.a ≤ bot e f := Int.le_max_left _ _
  have b2 : hh f.a ≤ bot e f := Int.le_max_right _ _
  have t1 : top e f ≤ hh e.b := Int.min_le_left _ _
  have t2 : top e f ≤ hh f.b := Int.min_le_right _ _
  have g1 := gg_low h ha hb b1
  have g2 := gg_low h ha hb b2
  have g3 := gg_high h ha hb t1
  have g4 := gg_high h ha hb t2
  rw [gg_ea, mul_pos_iff he.d] at g1
  rw [gg_eb, mul_neg_iff he.d] at g3
  rw [gg_fa] at g2
  rw [gg_fb] at g4
  have g2' : ar e.a e.b f.a < 0 := (mul_neg_iff hf.d).1 (by omega)
  have g4' : 0 < ar e.a e.b f.b := (mul_pos_iff hf.d).1 (by omega)
  unfold Cross
  rw [sg_pos g1, sg_ne g3, sg_ne g2', sg_pos g4']
  decide
theorem Cross.comm {e f : Sg} (h : Cross f e) : Cross e f := h.sym
/-- Two segments that do not cross, nor share more than one point: the one is right of the other wherever both are. -/
theorem side {e f : Sg} (ge : okG e = true) (gf : okG f = true) (he : Up e) (hf : Up f) (h : bot e f < top e f) (hm : mtg e f = 0 ∨ mtg e f = 1) :
    (0 ≤ GG e f (bot e f) ∧ 0 ≤ GG e f (top e f) ∧ 0 < GG e f (bot e f) + GG e f (top e f)) ∨ (GG e f (bot e f) ≤ 0 ∧ GG e f (top e f) ≤ 0 ∧ GG e f (bot e f) + GG e f (top e f) < 0) := by
  have hno : ¬ Cross e f := fun hc => by
    rcases mtg_cases ge gf with ⟨_, _, h3⟩ | ⟨_, h3⟩ | ⟨h3, _⟩ | ⟨h3, _⟩
    · exact h3 hc
    · exact cross_no h3 hc
    · omega
    · omega
  have hz : ¬ (GG e f (bot e f) = 0 ∧ GG e f (top e f) = 0) := fun ⟨z1, z2⟩ => by
    obtain ⟨p, hp, ip⟩ := bot_end he hf (by omega) z1
    obtain ⟨q, hq, iq⟩ := top_end he hf (by omega) z2
    have := r3 ge gf ip iq (fun e => by rw [e] at hp; omega)
    omega
  rcases Int.lt_trichotomy (GG e f (bot e f)) 0 with h1 | h1 | h1 <;> rcases Int.lt_trichotomy (GG e f (top e f)) 0 with h2 | h2 | h2
  · right; omega
  · right; omega
  · exfalso
    have e1 : bot f e = bot e f := Int.max_comm _ _
    have e2 : top f e = top e f := Int.min_comm _ _
    refine hno (Cross.comm (crossed hf he (by rw [e1, e2]; exact h) ?_ ?_))
    · rw [e1, gg_neg]; omega
    · rw [e2, gg_neg]; omega
  · right; omega
  · exact absurd ⟨h1, h2⟩ hz
  · left; omega
  · exact absurd (crossed he hf h h1 h2) hno
  · left; omega
  · left; omega
/-- Is the second one right of the first one? -/
def RT (e f : Sg) : Bool := decide (0 < GG e f (bot e f) + GG e f (top e f))
end JD
end Go.Proofs.Ytdefpcjlbganpaa
namespace Go.Proofs.Ytdefpcjlbganpaa
open Go.RowKit Go.Shelf Go.BigFrame Go.Sort
attribute [local go_sem] Oper.semAt_some
attribute [local go_sem] World.cell?_alloc_some
namespace JD
/-- The corners and edges of a simple polygon, each edge with its lower end first, and the sign of its direction. -/
structure JP (n : Nat) (P : Nat → Pt) (E : Nat → Sg) (s : Nat → Int) : Prop where
  n3 : 3 ≤ n
  ok : ∀ i, i < n → okP (P i) = true
  dir : ∀ i, i < n → (s i = 1 ∧ E i = ⟨P i, P ((i + 1) % n)⟩) ∨ (s i = -1 ∧ E i = ⟨P ((i + 1) % n), P i⟩)
  up : ∀ i, i < n → Up (E i)
  good : ∀ i, i < n → okG (E i) = true
  far : ∀ i j, i < n → j < n → i ≠ j → (i + 1) % n ≠ j → (j + 1) % n ≠ i → mtg (E i) (E j) = 0
  near : ∀ i, i < n → mtg (E i) (E ((i + 1) % n)) = 1
  inj : ∀ i j, i < n → j < n → P i = P j → i = j
variable {n : Nat} {P : Nat → Pt} {E : Nat → Sg} {s : Nat → Int}
theorem JP.nx (J : JP n P E s) (i : Nat) : (i + 1) % n < n := Nat.mod_lt _ (by have := J.n3; omega)
theorem JP.mt (J : JP n P E s) {i j : Nat} (hi : i < n) (hj : j < n) (h : i ≠ j) : mtg (E i) (E j) = 0 ∨ mtg (E i) (E j) = 1 := by
  by_cases h1 : (i + 1) % n = j
  · right; rw [← h1]; exact J.near i hi
  · by_cases h2 : (j + 1) % n = i
    · right; rw [mtg_comm, ← h2]; exact J.near j hj
    · exact .inl (J.far i j hi hj h h1 h2)
/-- A corner is an end of its edges. -/
theorem JP.end1 (J : JP n P E s) {i : Nat} (hi : i < n) : P i = (E i).a ∨ P i = (E i).b := by
  rcases J.dir i hi with ⟨_, h⟩ | ⟨_, h⟩ <;> rw [h] <;> simp
theorem JP.end2 (J : JP n P E s) {i : Nat} (hi : i < n) : P ((i + 1) % n) = (E i).a ∨ P ((i + 1) % n) = (E i).b := by
  rcases J.dir i hi with ⟨_, h⟩ | ⟨_, h⟩ <;> rw [h] <;> simp
theorem onL_l (a b : Pt) : onL a b a := ⟨ar_a a b, by omega, by omega⟩
theorem onL_r (a b : Pt) : onL a b b := ⟨ar_b a b, by omega, by omega⟩
theorem isEnd_both {e f : Sg} {p : Pt} (h1 : p = e.a ∨ p = e.b) (h2 : p = f.a ∨ p = f.b) : IsEnd e f p := by
  have hl : onL f.a f.b p := by
    rcases h2 with h | h
    · rw [h]; exact onL_l _ _
    · rw [h]; exact onL_r _ _
  rcases h1 with h | h
  · exact .inl ⟨h, by rw [← h]; exact hl⟩
  · exact .inr (.inl ⟨h, by rw [← h]; exact hl⟩)
/-- Two edges share no point but the corner between them. -/
theorem JP.common (J : JP n P E s) {i j : Nat} (hi : i < n) (hj : j < n) (h : i ≠ j) {q : Pt} (hq : IsEnd (E i) (E j) q) : (q = (E i).a ∨ q = (E i).b) ∧ (q = (E j).a ∨ q = (E j).b) := by
  have uniq : ∀ {i j : Nat}, i < n → j < n → i ≠ j → ∀ {p q : Pt}, IsEnd (E i) (E j) q → IsEnd (E i) (E j) p → q = p := fun {i j} hi hj h {p q} hq hp => by
    by_cases e : q = p
    · exact e
    · have := r3 (J.good i hi) (J.good j hj) hq hp e
      have := J.mt hi hj h
      omega
  by_cases h1 : (i + 1) % n = j
  · have a1 := J.end2 hi
    have a2 := J.end1 hj
    rw [h1] at a1
    obtain rfl := uniq hi hj h hq (isEnd_both a1 a2)
    exact ⟨a1, a2⟩
  · by_cases h2 : (j + 1) % n = i
    · have a1 := J.end1 hi
      have a2 := J.end2 hj
      rw [h2] at a2
      obtain rfl := uniq hi hj h hq (isEnd_both a1 a2)
      exact ⟨a1, a2⟩
    · have h0 := J.far i j hi hj h h1 h2
      rcases mtg_cases (J.good i hi) (J.good j hj) with ⟨_, h3, _⟩ | ⟨h3, _⟩ | ⟨h3, _⟩ | ⟨h3, _⟩
      · exact absurd (isEnd_iff.2 ⟨q, hq⟩) h3
      · omega
      · omega
      · omega
theorem bot_comm (e f : Sg) : bot f e = bot e f := Int.max_comm _ _
theorem top_comm (e f : Sg) : top f e = top e f := Int.min_comm _ _
/-- Right of, by the lower end; by the upper end. -/
theorem JP.rt_fa (J : JP n P E s) {i j : Nat} (hi : i < n) (hj : j < n) (h : i ≠ j) (h1 : hh (E i).a < hh (E j).a) (h2 : hh (E j).a < hh (E i).b) : RT (E i) (E j) = decide (ar (E i).a (E i).b (E j).a < 0) := by
  have ui : hh (E i).a < hh (E i).b := J.up i hi
  have uj : hh (E j).a < hh (E j).b := J.up j hj
  have hb : bot (E i) (E j) = hh (E j).a := by unfold bot; omega
  have hlt : bot (E i) (E j) < top (E i) (E j) := by unfold bot top; omega
  have hne : ar (E i).a (E i).b (E j).a ≠ 0 := fun h0 => by
    obtain ⟨h3 | h3, _⟩ := J.common hi hj h (q := (E j).a) (.inr (.inr (.inl ⟨rfl, onL_h h0 ui (by omega) (by omega)⟩)))
    · rw [h3] at h1; omega
    · rw [h3] at h2; omega
  have g := gg_fa (E i) (E j)
  have z := mul_zero_iff (x := ar (E i).a (E i).b (E j).a) (J.up j hj).d
  have p := mul_pos_iff (x := ar (E i).a (E i).b (E j).a) (J.up j hj).d
  have m := mul_neg_iff (x := ar (E i).a (E i).b (E j).a) (J.up j hj).d
  unfold RT
  rw [decide_eq_decide]
  rcases side (J.good i hi) (J.good j hj) ui uj hlt (J.mt hi hj h) with ⟨s1, s2, s3⟩ | ⟨s1, s2, s3⟩ <;> rw [hb, g] at s1 <;> rw [hb, g] at s3 <;> rw [hb, g] <;> omega
theorem JP.rt_fb (J : JP n P E s) {i j : Nat} (hi : i < n) (hj : j < n) (h : i ≠ j) (h1 : hh (E i).a < hh (E j).b) (h2 : hh (E j).b < hh (E i).b) : RT (E i) (E j) = decide (ar (E i).a (E i).b (E j).b < 0) := by
  have ui : hh (E i).a < hh (E i).b := J.up i hi
  have uj : hh (E j).a < hh (E j).b := J.up j hj
  have hb : top (E i) (E j) = hh (E j).b := by unfold top; omega
  have hlt : bot (E i) (E j) < top (E i) (E j) := by unfold bot top; omega
  have hne : ar (E i).a (E i).b (E j).b ≠ 0 := fun h0 => by
    obtain ⟨h3 | h3, _⟩ := J.common hi hj h (q := (E j).b) (.inr (.inr (.inr ⟨rfl, onL_h h0 ui (by omega) (by omega)⟩)))
    · rw [h3] at h1; omega
    · rw [h3] at h2; omega
  have g := gg_fb (E i) (E j)
  have z := mul_zero_iff (x := ar (E i).a (E i).b (E j).b) (J.up j hj).d
  have p := mul_pos_iff (x := ar (E i).a (E i).b (E j).b) (J.up j hj).d
  have m := mul_neg_iff (x := ar (E i).a (E i).b (E j).b) (J.up j hj).d
  unfold RT
  rw [decide_eq_decide]
  rcases side (J.good i hi) (J.good j hj) ui uj hlt (J.mt hi hj h) with ⟨s1, s2, s3⟩ | ⟨s1, s2, s3⟩ <;> rw [hb, g] at s2 <;> rw [hb, g] at s3 <;> rw [hb, g] <;> omega
theorem JP.rt_ea (J : JP n P E s) {i j : Nat} (hi : i < n) (hj : j < n) (h : i ≠ j) (h1 : hh (E j).a < hh (E i).a) (h2 : hh (E i).a < hh (E j).b) : RT (E i) (E j) = decide (0 < ar (E j).a (E j).b (E i).a) := by
  have ui : hh (E i).a < hh (E i).b := J.up i hi
  have uj : hh (E j).a < hh (E j).b := J.up j hj
  have hb : bot (E i) (E j) = hh (E i).a := by unfold bot; omega
  have hlt : bot (E i) (E j) < top (E i) (E j) := by unfold bot top; omega
  have hne : ar (E j).a (E j).b (E i).a ≠ 0 := fun h0 => by
    obtain ⟨_, h3 | h3⟩ := J.common hi hj h (q := (E i).a) (.inl ⟨rfl, onL_h h0 uj (by omega) (by omega)⟩)
    · rw [h3] at h1; omega
    · rw [h3] at h2; omega
  have g := gg_ea (E i) (E j)
  have z := mul_zero_iff (x := ar (E j).a (E j).b (E i).a) (J.up i hi).d
  have p := mul_pos_iff (x := ar (E j).a (E j).b (E i).a) (J.up i hi).d
  have m := mul_neg_iff (x := ar (E j).a (E j).b (E i).a) (J.up i hi).d
  unfold RT
  rw [decide_eq_decide]
  rcases side (J.good i hi) (J.good j hj) ui uj hlt (J.mt hi hj h) with ⟨s1, s2, s3⟩ | ⟨s1, s2, s3⟩ <;> rw [hb, g] at s1 <;> rw [hb, g] at s3 <;> rw [hb, g] <;> omega
theorem JP.rt_eb (J : JP n P E s) {i j : Nat} (hi : i < n) (hj : j < n) (h : i ≠ j) (h1 : hh (E j).a < hh (E i).b) (h2 : hh (E i).b < hh (E j).b) : RT (E i) (E j) = decide (0 < ar (E j).a (E j).b (E i).b) := by
  have ui : hh (E i).a < hh (E i).b := J.up i hi
  have uj : hh (E j).a < hh (E j).b := J.up j hj
  have hb : top (E i) (E j) = hh (E i).b := by unfold top; omega
  have hlt : bot (E i) (E j) < top (E i) (E j) := by unfold bot top; omega
  have hne : ar (E j).a (E j).b (E i).b ≠ 0 := fun h0 => by
    obtain ⟨_, h3 | h3⟩ := J.common hi hj h (q := (E i).b) (.inr (.inl ⟨rfl, onL_h h0 uj (by omega) (by omega)⟩))
    · rw [h3] at h1; omega
    · rw [h3] at h2; omega
  have g := gg_eb (E i) (E j)
  have z := mul_zero_iff (x := ar (E j).a (E j).b (E i).b) (J.up i hi).d
  have p := mul_pos_iff (x := ar (E j).a (E j).b (E i).b) (J.up i hi).d
  have m := mul_neg_iff (x := ar (E j).a (E j).b (E i).b) (J.up i hi).d
  unfold RT
  rw [decide_eq_decide]
  rcases side (J.good i hi) (J.good j hj) ui uj hlt (J.mt hi hj h) with ⟨s1, s2, s3⟩ | ⟨s1, s2, s3⟩ <;> rw [hb, g] at s2 <;> rw [hb, g] at s3 <;> rw [hb, g] <;> omega
theorem JP.rt_not (J : JP n P E s) {i j : Nat} (hi : i < n) (hj : j < n) (h : i ≠ j) (hlt : bot (E i) (E j) < top (E i) (E j)) : RT (E j) (E i) = !RT (E i) (E j) := by
  unfold RT
  rw [bot_comm (E i) (E j), top_comm (E i) (E j), gg_neg (E i) (E j) (bot (E i) (E j)), gg_neg (E i) (E j) (top (E i) (E j))]
  rcases side (J.good i hi) (J.good j hj) (J.up i hi) (J.up j hj) hlt (J.mt hi hj h) with ⟨s1, s2, s3⟩ | ⟨s1, s2, s3⟩
  · rw [decide_eq_false (by omega), decide_eq_true s3]; rfl
  · rw [decide_eq_true (by omega), decide_eq_false (by omega)]; rfl
theorem rt_self (e : Sg) : RT e e = false := by
  unfold RT
  have := gg_neg e e (bot e e)
  have := gg_neg e e (top e e)
  exact decide_eq_false (by omega)
end JD
end Go.Proofs.Ytdefpcjlbganpaa
namespace Go.Proofs.Ytdefpcjlbganpaa
open Go.RowKit Go.Shelf Go.BigFrame Go.Sort
attribute [local go_sem] Oper.semAt_some
attribute [local go_sem] World.cell?_alloc_some
namespace JD
variable {n : Nat} {P : Nat → Pt} {E : Nat → Sg} {s : Nat → Int}
theorem smI_add (F G : Nat → Int) : ∀ n, smI (fun i => F i + G i) n = smI F n + smI G n
  | 0 => rfl
  | n + 1 => by rw [smI, smI, smI, smI_add F G n]; omega
theorem smI_zero : ∀ {n : Nat} {F : Nat → Int}, (∀ i, i < n → F i = 0) → smI F n = 0
  | 0, _, _ => rfl
  | n + 1, F, h => by rw [smI, smI_zero (n := n) (fun i hi => h i (by omega)), h n (by omega)]; rfl
theorem smI_one : ∀ {n : Nat} {F : Nat → Int} {o : Nat}, o < n → (∀ i, i < n → i ≠ o → F i = 0) → smI F n = F o
  | 0, _, _, h, _ => absurd h (by omega)
  | n + 1, F, o, h, hF => by
    rw [smI]
    by_cases e : o = n
    · subst e
      rw [smI_zero (fun i hi => hF i (by omega) (by omega))]; omega
    · rw [smI_one (n := n) (by omega) (fun i hi he => hF i (by omega) he), hF n (by omega) (by omega)]; omega
/-- What is lost along the edges is nothing. -/
theorem JP.tele (J : JP n P E s) (g : Pt → Int) : smI (fun j => s j * (g (E j).b - g (E j).a)) n = 0 := by
  have h1 := smI_shift (fun i => g (P i)) n
  have h2 : smI (fun j => s j * (g (E j).b - g (E j).a)) n = smI (fun j => g (P ((j + 1) % n)) + -g (P j)) n := smI_congr fun j hj => by
    rcases J.dir j hj with ⟨e1, e2⟩ | ⟨e1, e2⟩ <;> rw [e1, e2] <;> simp only <;> omega
  rw [h2, smI_add, smI_neg (fun i => g (P i)), h1]; omega
/-- One, where this holds. -/
def b1 (p : Prop) [Decidable p] : Int := if p then 1 else 0
theorem b1_t {p : Prop} [Decidable p] (h : p) : b1 p = 1 := if_pos h
theorem b1_f {p : Prop} [Decidable p] (h : ¬ p) : b1 p = 0 := if_neg h
theorem b1_c {p q : Prop} [Decidable p] [Decidable q] (h : p ↔ q) : b1 p = b1 q := by
  by_cases hp : p
  · rw [b1_t hp, b1_t (h.1 hp)]
  · rw [b1_f hp, b1_f (fun hq => hp (h.2 hq))]
/-- The signs of the edges to the right of one, at a height. -/
def rho (E : Nat → Sg) (s : Nat → Int) (n i : Nat) (t : Int) : Int := smI (fun j => s j * b1 (hh (E j).a ≤ t ∧ t < hh (E j).b ∧ RT (E i) (E j) = true)) n
theorem JP.rho_c (J : JP n P E s) {i : Nat} (hi : i < n) {t : Int} (h1 : hh (E i).a ≤ t) (h2 : t < hh (E i).b) : rho E s n i t = rho E s n i (hh (E i).a) := by
  obtain ⟨g, hg⟩ : ∃ g : Pt → Int, g = fun Q => b1 (hh (E i).a < hh Q ∧ hh Q ≤ t ∧ ar (E i).a (E i).b Q < 0) := ⟨_, rfl⟩
  have key : ∀ j, j < n → b1 (hh (E j).a ≤ hh (E i).a ∧ hh (E i).a < hh (E j).b ∧ RT (E i) (E j) = true) + g (E j).a = b1 (hh (E j).a ≤ t ∧ t < hh (E j).b ∧ RT (E i) (E j) = true) + g (E j).b := fun j hj => by
    have uj : hh (E j).a < hh (E j).b := J.up j hj
    rw [hg]
    simp only
    by_cases e : i = j
    · subst e
      have hr : ¬ RT (E i) (E i) = true := by rw [rt_self]; decide
      rw [b1_f (p := hh (E i).a ≤ hh (E i).a ∧ _) (fun h => hr h.2.2), b1_f (p := hh (E i).a ≤ t ∧ t < _ ∧ _) (fun h => hr h.2.2), b1_f (fun h => by omega), b1_f (fun h => by omega)]
    · have low : b1 (hh (E j).a ≤ hh (E i).a ∧ hh (E i).a < hh (E j).b ∧ RT (E i) (E j) = true) + b1 (hh (E i).a < hh (E j).a ∧ hh (E j).a ≤ t ∧ ar (E i).a (E i).b (E j).a < 0) = b1 (hh (E i).a < hh (E j).b ∧ hh (E j).a ≤ t ∧ RT (E i) (E j) = true) := by
        by_cases c1 : hh (E j).a ≤ hh (E i).a
        · rw [b1_f (p := hh (E i).a < hh (E j).a ∧ _) (by omega), Int.add_zero]
          exact b1_c ⟨fun h => ⟨h.2.1, by omega, h.2.2⟩, fun h => ⟨c1, h.1, h.2.2⟩⟩
        · rw [b1_f (p := hh (E j).a ≤ hh (E i).a ∧ _) (fun h => c1 h.1), Int.zero_add]
          by_cases c2 : hh (E j).a ≤ t
          · have hr := J.rt_fa hi hj e (by omega) (by omega)
            refine b1_c ⟨fun h => ⟨by omega, c2, by rw [hr]; exact decide_eq_true h.2.2⟩, fun h => ⟨by omega, c2, ?_⟩⟩
            have := h.2.2
            rw [hr] at this
            exact of_decide_eq_true this
          · rw [b1_f (fun h => c2 h.2.1), b1_f (fun h => c2 h.2.1)]
      have upp : b1 (hh (E j).a ≤ t ∧ t < hh (E j).b ∧ RT (E i) (E j) = true) + b1 (hh (E i).a < hh (E j).b ∧ hh (E j).b ≤ t ∧ ar (E i).a (E i).b (E j).b < 0) = b1 (hh (E i).a < hh (E j).b ∧ hh (E j).a ≤ t ∧ RT (E i) (E j) = true) := by
        by_cases c1 : t < hh (E j).b
        · rw [b1_f (p := hh (E i).a < hh (E j).b ∧ hh (E j).b ≤ t ∧ _) (fun h => by omega), Int.add_zero]
          exact b1_c ⟨fun h => ⟨by omega, h.1, h.2.2⟩, fun h => ⟨h.2.1, c1, h.2.2⟩⟩
        · rw [b1_f (p := hh (E j).a ≤ t ∧ _) (fun h => c1 h.2.1), Int.zero_add]
          by_cases c2 : hh (E i).a < hh (E j).b
          · have hr := J.rt_fb hi hj e c2 (by omega)
            refine b1_c ⟨fun h => ⟨c2, by omega, by rw [hr]; exact decide_eq_true h.2.2⟩, fun h => ⟨c2, by omega, ?_⟩⟩
            have := h.2.2
            rw [hr] at this
            exact of_decide_eq_true this
          · rw [b1_f (fun h => c2 h.1), b1_f (fun h => c2 h.1)]
      rw [low, upp]
  have ht := J.tele g
  have hs : rho E s n i (hh (E i).a) = rho E s n i t + smI (fun j => s j * (g (E j).b - g (E j).a)) n := by
    unfold rho
    rw [← smI_add]
    refine smI_congr fun j hj => ?_
    have k := key j hj
    have e1 : b1 (hh (E j).a ≤ hh (E i).a ∧ hh (E i).a < hh (E j).b ∧ RT (E i) (E j) = true) = b1 (hh (E j).a ≤ t ∧ t < hh (E j).b ∧ RT (E i) (E j) = true) + (g (E j).b - g (E j).a) := by omega
    rw [e1, Int.mul_add]
  rw [hs, ht, Int.add_zero]
/-- The signs of the edges to the right of a corner. -/
def TT (P : Nat → Pt) (E : Nat → Sg) (s : Nat → Int) (n m : Nat) : Int := smI (fun j => s j * b1 (hh (E j).a < hh (P m) ∧ hh (P m) < hh (E j).b ∧ 0 < ar (E j).a (E j).b (P m))) n
theorem JP.oka (J : JP n P E s) {j : Nat} (hj : j < n) : okP (E j).a = true := (okG_iff.1 (J.good j hj)).1
theorem JP.okb (J : JP n P E s) {j : Nat} (hj : j < n) : okP (E j).b = true := (okG_iff.1 (J.good j hj)).2.1
theorem JP.inc (J : JP n P E s) {i m j : Nat} (hi : i < n) (hj : j < n) (hm : (i + 1) % n = m) (h : (E j).a = P m ∨ (E j).b = P m) : j = i ∨ j = m := by
  have hm' : m < n := by rw [← hm]; exact J.nx i
  have succ_inj : (j + 1) % n = m → j = i := fun e => by
    have e2 : (j + 1) % n = (i + 1) % n := e.trans hm.symm
    rcases Nat.lt_or_ge (j + 1) n with a | a <;> rcases Nat.lt_or_ge (i + 1) n with b | b
    · rw [Nat.mod_eq_of_lt a, Nat.mod_eq_of_lt b] at e2; omega
    · have : i + 1 = n := by omega
      rw [Nat.mod_eq_of_lt a, this, Nat.mod_self] at e2; omega
    · have : j + 1 = n := by omega
      rw [Nat.mod_eq_of_lt b, this, Nat.mod_self] at e2; omega
    · omega
  have hp : P j = P m ∨ P ((j + 1) % n) = P m := by
    rcases J.dir j hj with ⟨_, e⟩ | ⟨_, e⟩ <;> rw [e] at h <;> simp only at h
    · exact h
    · exact h.symm
  rcases hp with hp | hp
  · exact .inr (J.inj j m hj hm' hp)
  · exact .inl (succ_inj (J.inj _ _ (J.nx j) hm' hp))
theorem JP.at_low (J : JP n P E s) {e o m : Nat} (he : e < n) (ho : o < n) (hm : m < n) (hinc : ∀ j, j < n → ((E j).a = P m ∨ (E j).b = P m) → j = e ∨ j = o) (h : (E e).a = P m) :
    rho E s n e (hh (P m)) = TT P E s n m + s o * b1 ((E o).a = P m ∧ RT (E e) (E o) = true) := by
  have key : ∀ j, j < n → b1 (hh (E j).a ≤ hh (P m) ∧ hh (P m) < hh (E j).b ∧ RT (E e) (E j) = true) = b1 (hh (E j).a < hh (P m) ∧ hh (P m) < hh (E j).b ∧ 0 < ar (E j).a (E j).b (P m)) + b1 ((E j).a = P m ∧ RT (E e) (E j) = true) := fun j hj => by
    have uj : hh (E j).a < hh (E j).b := J.up j hj
    by_cases c0 : (E j).a = P m
    · rw [b1_f (p := hh (E j).a < hh (P m) ∧ _) (fun k => by rw [c0] at k; omega), Int.zero_add]
      rw [c0] at uj
      exact b1_c ⟨fun k => ⟨c0, k.2.2⟩, fun k => ⟨by rw [c0]; omega, uj, k.2⟩⟩
    · have c1 : hh (E j).a ≠ hh (P m) := fun k => c0 (hh_inj (J.oka hj) (J.ok m hm) k)
      rw [b1_f (p := (E j).a = P m ∧ _) (fun k => c0 k.1), Int.add_zero]
      by_cases c2 : hh (E j).a < hh (P m) ∧ hh (P m) < hh (E j).b
      · have hej : e ≠ j := fun k => by subst k; exact c0 h
        have hr := J.rt_ea he hj hej (by rw [h]; exact c2.1) (by rw [h]; exact c2.2)
        rw [h] at hr
        rw [hr]
        exact b1_c ⟨fun k => ⟨c2.1, c2.2, of_decide_eq_true k.2.2⟩, fun k => ⟨by omega, c2.2, decide_eq_true k.2.2⟩⟩
      · rw [b1_f (fun k => c2 ⟨by omega, k.2.1⟩), b1_f (fun k => c2 ⟨k.1, k.2.1⟩)]
  have hr : ¬ RT (E e) (E e) = true := by rw [rt_self]; decide
  unfold rho TT
  rw [← smI_one (F := fun j => s j * b1 ((E j).a = P m ∧ RT (E e) (E j) = true)) ho (fun j hj hne => by
    show s j * b1 _ = 0
    rw [b1_f (fun k => ?_), Int.mul_zero]
    rcases hinc j hj (.inl k.1) with k1 | k1
    · rw [k1] at k; exact hr k.2
    · exact hne k1), ← smI_add]
  refine smI_congr fun j hj => ?_
  rw [key j hj, Int.mul_add]
theorem JP.at_high (J : JP n P E s) {e o m : Nat} (he : e < n) (ho : o < n) (hm : m < n) (hinc : ∀ j, j < n → ((E j).a = P m ∨ (E j).b = P m) → j = e ∨ j = o) (h : (E e).b = P m) :
    rho E s n e (hh (P m) - 1) = TT P E s n m + s o * b1 ((E o).b = P m ∧ RT (E e) (E o) = true) := by
  have key : ∀ j, j < n → b1 (hh (E j).a ≤ hh (P m) - 1 ∧ hh (P m) - 1 < hh (E j).b ∧ RT (E e) (E j) = true) = b1 (hh (E j).a < hh (P m) ∧ hh (P m) < hh (E j).b ∧ 0 < ar (E j).a (E j).b (P m)) + b1 ((E j).b = P m ∧ RT (E e) (E j) = true) := fun j hj => by
    have uj : hh (E j).a < hh (E j).b := J.up j hj
    by_cases c0 : (E j).b = P m
    · rw [b1_f (p := hh (E j).a < hh (P m) ∧ _) (fun k => by rw [c0] at k; omega), Int.zero_add]
      rw [c0] at uj
      exact b1_c ⟨fun k => ⟨c0, k.2.2⟩, fun k => ⟨by omega, by rw [c0]; omega, k.2⟩⟩
    · have c1 : hh (E j).b ≠ hh (P m) := fun k => c0 (hh_inj (J.okb hj) (J.ok m hm) k)
      rw [b1_f (p := (E j).b = P m ∧ _) (fun k => c0 k.1), Int.add_zero]
      by_cases c2 : hh (E j).a < hh (P m) ∧ hh (P m) < hh (E j).b
      · have hej : e ≠ j := fun k => by subst k; exact c0 h
        have hr := J.rt_eb he hj hej (by rw [h]; exact c2.1) (by rw [h]; exact c2.2)
        rw [h] at hr
        rw [hr]
        exact b1_c ⟨fun k => ⟨c2.1, c2.2, of_decide_eq_true k.2.2⟩, fun k => ⟨by omega, by omega, decide_eq_true k.2.2⟩⟩
      · rw [b1_f (fun k => c2 ⟨by omega, by omega⟩), b1_f (fun k => c2 ⟨k.1, k.2.1⟩)]
  have hr : ¬ RT (E e) (E e) = true := by rw [rt_self]; decide
  unfold rho TT
  rw [← smI_one (F := fun j => s j * b1 ((E j).b = P m ∧ RT (E e) (E j) = true)) ho (fun j hj hne => by
    show s j * b1 _ = 0
    rw [b1_f (fun k => ?_), Int.mul_zero]
    rcases hinc j hj (.inr k.1) with k1 | k1
    · rw [k1] at k; exact hr k.2
    · exact hne k1), ← smI_add]
  refine smI_congr fun j hj => ?_
  rw [key j hj, Int.mul_add]
end JD
end Go.Proofs.Ytdefpcjlbganpaa
namespace Go.Proofs.Ytdefpcjlbganpaa
open Go.RowKit Go.Shelf Go.BigFrame Go.Sort
attribute [local go_sem] Oper.semAt_some
attribute [local go_sem] World.cell?_alloc_some
namespace JD
variable {n : Nat} {P : Nat → Pt} {E : Nat → Sg} {s : Nat → Int}
def cc (E : Nat → Sg) (s : Nat → Int) (n e : Nat) : Int := rho E s n e (hh (E e).a) + b1 (s e = 1)
theorem JP.c_low (J : JP n P E s) {e o m : Nat} (he : e < n) (ho : o < n) (hm : m < n) (hinc : ∀ j, j < n → ((E j).a = P m ∨ (E j).b = P m) → j = e ∨ j = o) (h : (E e).a = P m) :
    cc E s n e = TT P E s n m + s o * b1 ((E o).a = P m ∧ RT (E e) (E o) = true) + b1 (s e = 1) := by
  unfold cc; rw [h, J.at_low he ho hm hinc h]
theorem JP.c_high (J : JP n P E s) {e o m : Nat} (he : e < n) (ho : o < n) (hm : m < n) (hinc : ∀ j, j < n → ((E j).a = P m ∨ (E j).b = P m) → j = e ∨ j = o) (h : (E e).b = P m) :
    cc E s n e = TT P E s n m + s o * b1 ((E o).b = P m ∧ RT (E e) (E o) = true) + b1 (s e = 1) := by
  have u : hh (E e).a < hh (E e).b := J.up e he
  unfold cc; rw [← J.rho_c he (t := hh (P m) - 1) (by rw [← h]; omega) (by rw [← h]; omega), J.at_high he ho hm hinc h]
theorem JP.c_next (J : JP n P E s) {i : Nat} (hi : i < n) : cc E s n i = cc E s n ((i + 1) % n) := by
  obtain ⟨m, hm⟩ : ∃ m, (i + 1) % n = m := ⟨_, rfl⟩
  have hm' : m < n := by rw [← hm]; exact J.nx i
  rw [hm]
  have n3 := J.n3
  have him : i ≠ m := fun e => by
    rcases Nat.lt_or_ge (i + 1) n with a | a
    · rw [Nat.mod_eq_of_lt a] at hm; omega
    · have : i + 1 = n := by omega
      rw [this, Nat.mod_self] at hm; omega
  have i1 : ∀ j, j < n → ((E j).a = P m ∨ (E j).b = P m) → j = i ∨ j = m := fun j hj h => J.inc hi hj hm h
  have i2 : ∀ j, j < n → ((E j).a = P m ∨ (E j).b = P m) → j = m ∨ j = i := fun j hj h => (i1 j hj h).symm
  have ui : hh (E i).a < hh (E i).b := J.up i hi
  have um : hh (E m).a < hh (E m).b := J.up m hm'
  have s1 : b1 ((1 : Int) = 1) = 1 := b1_t rfl
  have s2 : b1 ((-1 : Int) = 1) = 0 := b1_f (by decide)
  rcases J.dir i hi with ⟨di, ei⟩ | ⟨di, ei⟩ <;> rcases J.dir m hm' with ⟨dm, em⟩ | ⟨dm, em⟩
  · have h1 : (E i).b = P m := by rw [ei, hm]
    have h2 : (E m).a = P m := by rw [em]
    rw [J.c_high hi hm' hm' i1 h1, J.c_low hm' hi hm' i2 h2, b1_f (p := (E m).b = P m ∧ _) (fun k => by rw [k.1, h2] at um; omega), b1_f (p := (E i).a = P m ∧ _) (fun k => by rw [k.1, h1] at ui; omega), di, dm]
  · have h1 : (E i).b = P m := by rw [ei, hm]
    have h2 : (E m).b = P m := by rw [em]
    have a1 : hh (E i).b = hh (P m) := by rw [h1]
    have a2 : hh (E m).b = hh (P m) := by rw [h2]
    have hr := J.rt_not hi hm' him (by unfold bot top; omega)
    rw [J.c_high hi hm' hm' i1 h1, J.c_high hm' hi hm' i2 h2, di, dm, s1, s2]
    cases hx : RT (E i) (E m)
    · rw [hx] at hr
      rw [b1_f (fun k => by cases k.2), b1_t ⟨h1, by rw [hr]; rfl⟩]; omega
    · rw [hx] at hr
      rw [b1_t ⟨h2, rfl⟩, b1_f (fun k => by rw [hr] at k; cases k.2)]; omega
  · have h1 : (E i).a = P m := by rw [ei, hm]
    have h2 : (E m).a = P m := by rw [em]
    have a1 : hh (E i).a = hh (P m) := by rw [h1]
    have a2 : hh (E m).a = hh (P m) := by rw [h2]
    have hr := J.rt_not hi hm' him (by unfold bot top; omega)
    rw [J.c_low hi hm' hm' i1 h1, J.c_low hm' hi hm' i2 h2, di, dm, s1, s2]
    cases hx : RT (E i) (E m)
    · rw [hx] at hr
      rw [b1_f (fun k => by cases k.2), b1_t ⟨h1, by rw [hr]; rfl⟩]; omega
    · rw [hx] at hr
      rw [b1_t ⟨h2, rfl⟩, b1_f (fun k => by rw [hr] at k; cases k.2)]; omega
  · have h1 : (E i).a = P m := by rw [ei, hm]
    have h2 : (E m).b = P m := by rw [em]
    rw [J.c_low hi hm' hm' i1 h1, J.c_high hm' hi hm' i2 h2, b1_f (p := (E m).a = P m ∧ _) (fun k => by rw [k.1, h2] at um; omega), b1_f (p := (E i).b = P m ∧ _) (fun k => by rw [k.1, h1] at ui; omega), di, dm]
theorem JP.c_all (J : JP n P E s) : ∀ j, j < n → cc E s n j = cc E s n 0
  | 0, _ => rfl
  | j + 1, h => by
    have := J.c_next (i := j) (by omega)
    rw [Nat.mod_eq_of_lt h] at this
    rw [← this]; exact J.c_all j (by omega)
theorem ex_max (f : Nat → Int) (R : Nat → Prop) : ∀ n, (∃ j, j < n ∧ R j) → ∃ m, m < n ∧ R m ∧ ∀ j, j < n → R j → f j ≤ f m
  | 0, h => by obtain ⟨j, h, _⟩ := h; omega
  | n + 1, h => by
    by_cases h0 : ∃ j, j < n ∧ R j
    · obtain ⟨m, hm, hr, hx⟩ := ex_max f R n h0
      by_cases hn : R n ∧ f m < f n
      · exact ⟨n, by omega, hn.1, fun j hj hrj => by
          rcases Nat.lt_or_ge j n with a | a
          · have := hx j a hrj; omega
          · obtain rfl : j = n := by omega
            omega⟩
      · exact ⟨m, by omega, hr, fun j hj hrj => by
          rcases Nat.lt_or_ge j n with a | a
          · exact hx j a hrj
          · obtain rfl : j = n := by omega
            exact Int.not_lt.1 (fun hlt => hn ⟨hrj, hlt⟩)⟩
    · obtain ⟨j, hj, hr⟩ := h
      have : j = n := by
        rcases Nat.lt_or_ge j n with a | a
        · exact absurd ⟨j, a, hr⟩ h0
        · omega
      subst this
      exact ⟨j, hj, hr, fun i hi hri => by
        rcases Nat.lt_or_ge i j with a | a
        · exact absurd ⟨i, a, hri⟩ h0
        · obtain rfl : i = j := by omega
          exact Int.le_refl _⟩
theorem b1_01 (p : Prop) [Decidable p] : b1 p = 0 ∨ b1 p = 1 := by
  by_cases h : p
  · exact .inr (b1_t h)
  · exact .inl (b1_f h)
theorem JP.c01 (J : JP n P E s) : cc E s n 0 = 0 ∨ cc E s n 0 = 1 := by
  have n3 := J.n3
  obtain ⟨m, hm, _, hx⟩ := ex_max (fun j => hh (P j)) (fun _ => True) n ⟨0, by omega, trivial⟩
  obtain ⟨i, hi, hmi⟩ : ∃ i, i < n ∧ (i + 1) % n = m := by
    cases m with
    | zero => exact ⟨n - 1, by omega, by rw [show n - 1 + 1 = n from by omega, Nat.mod_self]⟩
    | succ k => exact ⟨k, by omega, Nat.mod_eq_of_lt hm⟩
  have i1 : ∀ j, j < n → ((E j).a = P m ∨ (E j).b = P m) → j = i ∨ j = m := fun j hj h => J.inc hi hj hmi h
  have ui : hh (E i).a < hh (E i).b := J.up i hi
  have um : hh (E m).a < hh (E m).b := J.up m hm
  have xi : hh (P i) ≤ hh (P m) := hx i hi trivial
  have xm : hh (P ((m + 1) % n)) ≤ hh (P m) := hx _ (J.nx m) trivial
  have hT : TT P E s n m = 0 := smI_zero fun j hj => by
    have x1 : hh (P j) ≤ hh (P m) := hx j hj trivial
    have x2 : hh (P ((j + 1) % n)) ≤ hh (P m) := hx _ (J.nx j) trivial
    rw [b1_f (fun k => ?_), Int.mul_zero]
    rcases J.dir j hj with ⟨_, e⟩ | ⟨_, e⟩ <;> rw [e] at k <;> simp only at k <;> omega
  rcases J.dir i hi with ⟨di, ei⟩ | ⟨di, ei⟩
  · rcases J.dir m hm with ⟨dm, em⟩ | ⟨dm, em⟩
    · rw [em] at um; simp only at um; omega
    · have h1 : (E i).b = P m := by rw [ei, hmi]
      have := J.c_high hi hm hm i1 h1
      rw [J.c_all i hi, hT, dm, b1_t (p := s i = 1) di] at this
      rcases b1_01 ((E m).b = P m ∧ RT (E i) (E m) = true) with z | z <;> rw [z] at this <;> omega
  · rw [ei, hmi] at ui; simp only at ui; omega
end JD
end Go.Proofs.Ytdefpcjlbganpaa
namespace Go.Proofs.Ytdefpcjlbganpaa
open Go.RowKit Go.Shelf Go.BigFrame Go.Sort
attribute [local go_sem] Oper.semAt_some
attribute [local go_sem] World.cell?_alloc_some
namespace JD
variable {n : Nat} {P : Nat → Pt} {E : Nat → Sg} {s : Nat → Int}
/-- Twice where an edge is in the middle of a strip, times its height. -/
def NN (e : Sg) (t : Int) : Int := 2 * e.a.x * dl e + (e.b.x - e.a.x) * (2 * (t - hh e.a) + 1)
theorem gg_nn (e f : Sg) (t : Int) : GG e f t + GG e f (t + 1) = dl e * NN f t - dl f * NN e t := by unfold GG NN; grind
theorem gg_mix2 (e f : Sg) (a b t : Int) : (GG e f t + GG e f (t + 1)) * (b - a) = GG e f a * (2 * b - 2 * t - 1) + GG e f b * (2 * t + 1 - 2 * a) := by unfold GG; grind
theorem nn_pos {e f : Sg} {t : Int} (h1 : bot e f ≤ t) (h2 : t + 1 ≤ top e f) (g1 : 0 ≤ GG e f (bot e f)) (g2 : 0 ≤ GG e f (top e f)) (g3 : 0 < GG e f (bot e f) + GG e f (top e f)) : 0 < dl e * NN f t - dl f * NN e t := by
  rw [← gg_nn]
  have h := gg_mix2 e f (bot e f) (top e f) t
  have p1 := Int.mul_le_mul_of_nonneg_left (show 1 ≤ 2 * top e f - 2 * t - 1 by omega) g1
  have p2 := Int.mul_le_mul_of_nonneg_left (show 1 ≤ 2 * t + 1 - 2 * bot e f by omega) g2
  rcases Int.lt_or_le 0 (GG e f t + GG e f (t + 1)) with h0 | h0
  · exact h0
  · have := Int.mul_nonpos_of_nonpos_of_nonneg h0 (show 0 ≤ top e f - bot e f by omega); omega
/-- An edge crosses a strip. -/
def In (E : Nat → Sg) (j : Nat) (t : Int) : Prop := hh (E j).a ≤ t ∧ t < hh (E j).b
theorem JP.rt_nn (J : JP n P E s) {i j : Nat} (hi : i < n) (hj : j < n) (h : i ≠ j) {t : Int} (h1 : In E i t) (h2 : In E j t) : RT (E i) (E j) = true ↔ 0 < dl (E i) * NN (E j) t - dl (E j) * NN (E i) t := by
  unfold In at h1 h2
  have hb : bot (E i) (E j) ≤ t := by unfold bot; omega
  have ht : t + 1 ≤ top (E i) (E j) := by unfold top; omega
  unfold RT
  rw [decide_eq_true_eq]
  rcases side (J.good i hi) (J.good j hj) (J.up i hi) (J.up j hj) (by omega) (J.mt hi hj h) with ⟨s1, s2, s3⟩ | ⟨s1, s2, s3⟩
  · exact ⟨fun _ => nn_pos hb ht s1 s2 s3, fun _ => s3⟩
  · have g1 := gg_neg (E i) (E j) (bot (E i) (E j))
    have g2 := gg_neg (E i) (E j) (top (E i) (E j))
    have c1 := bot_comm (E i) (E j)
    have c2 := top_comm (E i) (E j)
    have := nn_pos (e := E j) (f := E i) (t := t) (by rw [c1]; exact hb) (by rw [c2]; exact ht) (by rw [c1]; omega) (by rw [c2]; omega) (by rw [c1, c2]; omega)
    constructor <;> intro <;> omega
/-- A common multiple of the heights. -/
theorem ex_K (f : Nat → Int) : ∀ n, (∀ j, j < n → 0 < f j) → ∃ K : Int, ∃ q : Nat → Int, 0 < K ∧ ∀ j, j < n → 0 < q j ∧ f j * q j = K
  | 0, _ => ⟨1, fun _ => 1, by decide, fun j h => by omega⟩
  | n + 1, h => by
    obtain ⟨K, q, hK, hq⟩ := ex_K f n (fun j hj => h j (by omega))
    have hn := h n (by omega)
    refine ⟨K * f n, fun j => if j < n then q j * f n else K, Int.mul_pos hK hn, fun j hj => ?_⟩
    simp only
    by_cases a : j < n
    · obtain ⟨h1, h2⟩ := hq j a
      rw [if_pos a]
      exact ⟨Int.mul_pos h1 hn, by rw [← h2, Int.mul_assoc]⟩
    · obtain rfl : j = n := by omega
      rw [if_neg (by omega)]
      exact ⟨hK, Int.mul_comm _ _⟩
/-- The edges in a strip, from left to right. -/
structure YY (n : Nat) (E : Nat → Sg) (K : Int) (q : Nat → Int) : Prop where
  K0 : 0 < K
  q0 : ∀ j, j < n → 0 < q j
  e : ∀ j, j < n → dl (E j) * q j = K
theorem JP.ex_Y (J : JP n P E s) : ∃ K q, YY n E K q := by
  obtain ⟨K, q, hK, h⟩ := ex_K (fun j => dl (E j)) n (fun j hj => (J.up j hj).d)
  exact ⟨K, q, hK, fun j hj => (h j hj).1, fun j hj => (h j hj).2⟩
variable {K : Int} {q : Nat → Int}
theorem JP.rt_y (J : JP n P E s) (Y : YY n E K q) {i j : Nat} (hi : i < n) (hj : j < n) (h : i ≠ j) {t : Int} (h1 : In E i t) (h2 : In E j t) : RT (E i) (E j) = true ↔ q i * NN (E i) t < q j * NN (E j) t := by
  rw [J.rt_nn hi hj h h1 h2]
  have di := (J.up i hi).d
  have dj := (J.up j hj).d
  have ei := Y.e i hi
  have ej := Y.e j hj
  have key : K * (dl (E i) * NN (E j) t - dl (E j) * NN (E i) t) = dl (E i) * dl (E j) * (q j * NN (E j) t - q i * NN (E i) t) := by
    have a1 : K * (dl (E i) * NN (E j) t) = dl (E i) * dl (E j) * (q j * NN (E j) t) := by rw [← ej]; grind
    have a2 : K * (dl (E j) * NN (E i) t) = dl (E i) * dl (E j) * (q i * NN (E i) t) := by rw [← ei]; grind
    rw [Int.mul_sub, Int.mul_sub, a1, a2]
  have dd : 0 < dl (E i) * dl (E j) := Int.mul_pos di dj
  constructor
  · intro hx
    have p := Int.mul_pos Y.K0 hx
    rw [key] at p
    rcases Int.lt_or_le 0 (q j * NN (E j) t - q i * NN (E i) t) with z | z
    · omega
    · have := Int.mul_nonpos_of_nonneg_of_nonpos (Int.le_of_lt dd) z; omega
  · intro hx
    have p := Int.mul_pos dd (show 0 < q j * NN (E j) t - q i * NN (E i) t by omega)
    rw [← key] at p
    rcases Int.lt_or_le 0 (dl (E i) * NN (E j) t - dl (E j) * NN (E i) t) with z | z
    · exact z
    · have := Int.mul_nonpos_of_nonneg_of_nonpos (Int.le_of_lt Y.K0) z; omega
theorem JP.y_ne (J : JP n P E s) (Y : YY n E K q) {i j : Nat} (hi : i < n) (hj : j < n) (h : i ≠ j) {t : Int} (h1 : In E i t) (h2 : In E j t) : q i * NN (E i) t ≠ q j * NN (E j) t := fun e => by
  have a := J.rt_y Y hi hj h h1 h2
  have b := J.rt_y Y hj hi h.symm h2 h1
  have c := J.rt_not hi hj h (by unfold In at h1 h2; unfold bot top; omega)
  cases hx : RT (E i) (E j)
  · rw [hx] at c; rw [c] at b; have := b.1 rfl; omega
  · have := a.1 hx; omega
/-- Edges of a strip, with all that are to the right of one of them: their signs add up to two numbers at most. -/
theorem JP.closed (J : JP n P E s) (Y : YY n E K q) (t : Int) (R : Nat → Prop) [DecidablePred R] (hR : ∀ j, j < n → R j → In E j t)
    (hc : ∀ i j, i < n → j < n → R i → In E j t → q i * NN (E i) t < q j * NN (E j) t → R j) :
    smI (fun j => s j * b1 (R j)) n = 0 ∨ smI (fun j => s j * b1 (R j)) n = cc E s n 0 ∨ smI (fun j => s j * b1 (R j)) n = cc E s n 0 - 1 := by
  by_cases h0 : ∃ j, j < n ∧ R j
  · obtain ⟨k, hk, hr, hx⟩ := ex_max (fun j => -(q j * NN (E j) t)) R n h0
    have kt := hR k hk hr
    have key : ∀ j, j < n → b1 (R j) = b1 (j = k) + b1 (hh (E j).a ≤ t ∧ t < hh (E j).b ∧ RT (E k) (E j) = true) := fun j hj => by
      by_cases e : j = k
      · subst e
        rw [b1_t hr, b1_t rfl, b1_f (fun h => by rw [rt_self] at h; cases h.2.2)]; rfl
      · rw [b1_f e, Int.zero_add]
        refine b1_c ⟨fun h => ?_, fun h => ?_⟩
        · have jt := hR j hj h
          have h1 : -(q j * NN (E j) t) ≤ -(q k * NN (E k) t) := hx j hj h
          have h2 := J.y_ne Y hk hj (fun a => e a.symm) kt jt
          exact ⟨jt.1, jt.2, (J.rt_y Y hk hj (fun a => e a.symm) kt jt).2 (by omega)⟩
        · exact hc k j hk hj hr ⟨h.1, h.2.1⟩ ((J.rt_y Y hk hj (fun a => e a.symm) kt ⟨h.1, h.2.1⟩).1 h.2.2)
    have hs : smI (fun j => s j * b1 (R j)) n = s k + rho E s n k t := by
      have e1 : smI (fun j => s j * b1 (j = k)) n = s k := by
        rw [smI_one hk (fun i _ hne => by show s i * b1 (i = k) = 0; rw [b1_f hne, Int.mul_zero])]
        rw [b1_t rfl, Int.mul_one]
      unfold rho
      rw [← e1, ← smI_add]
      exact smI_congr fun j hj => by rw [key j hj, Int.mul_add]
    have hcc := J.c_all k hk
    unfold cc at hcc
    rw [← J.rho_c hk kt.1 kt.2] at hcc
    right
    have hcc' : rho E s n k t + b1 (s k = 1) = cc E s n 0 := hcc
    rcases J.dir k hk with ⟨d, _⟩ | ⟨d, _⟩
    · left; rw [hs]; rw [b1_t d] at hcc'; rw [d]; omega
    · right; rw [hs]; rw [b1_f (by rw [d]; decide)] at hcc'; rw [d]; omega
  · left
    exact smI_zero fun j hj => by rw [b1_f (fun h => h0 ⟨j, hj, h⟩), Int.mul_zero]
theorem gg_pt (e f : Sg) (p : Pt) : GG e f (hh p) = dl e * (4194304 * ar f.a f.b p) - dl f * (4194304 * ar e.a e.b p) := by unfold GG dl hh ar; grind
/-- How often a simple polygon goes around a point. -/
theorem JP.wind (J : JP n P E s) (p : Pt) : 
    smI (fun j => s j * b1 (hh (E j).a ≤ hh p ∧ hh p < hh (E j).b ∧ 0 < ar (E j).a (E j).b p)) n = 0 ∨ smI (fun j => s j * b1 (hh (E j).a ≤ hh p ∧ hh p < hh (E j).b ∧ 0 < ar (E j).a (E j).b p)) n = cc E s n 0 ∨ smI (fun j => s j * b1 (hh (E j).a ≤ hh p ∧ hh p < hh (E j).b ∧ 0 < ar (E j).a (E j).b p)) n = cc E s n 0 - 1 := by
  obtain ⟨K, q, Y⟩ := J.ex_Y
  refine J.closed Y (hh p) (fun j => hh (E j).a ≤ hh p ∧ hh p < hh (E j).b ∧ 0 < ar (E j).a (E j).b p) (fun j _ h => ⟨h.1, h.2.1⟩) (fun i j hi hj hri hjt hlt => ?_)
  have e : i ≠ j := fun e => by subst e; omega
  have hit : In E i (hh p) := ⟨hri.1, hri.2.1⟩
  have hr := (J.rt_y Y hi hj e hit hjt).2 hlt
  refine ⟨hjt.1, hjt.2, ?_⟩
  unfold In at hit hjt
  have hb : bot (E i) (E j) ≤ hh p := by unfold bot; omega
  have ht : hh p + 1 ≤ top (E i) (E j) := by unfold top; omega
  unfold RT at hr
  have hr' := of_decide_eq_true hr
  have g0 : 0 ≤ GG (E i) (E j) (hh p) := by
    rcases side (J.good i hi) (J.good j hj) (J.up i hi) (J.up j hj) (by omega) (J.mt hi hj e) with ⟨s1, s2, s3⟩ | ⟨s1, s2, s3⟩
    · exact gg_mid (by omega) s1 s2 hb (by omega)
    · omega
  rw [gg_pt] at g0
  have := (mul_pos_iff (J.up j hj).d).2 hri.2.2
  exact (mul_pos_iff (J.up i hi).d).1 (by omega)
end JD
end Go.Proofs.Ytdefpcjlbganpaa
namespace Go.Proofs.Ytdefpcjlbganpaa
open Go.RowKit Go.Shelf Go.BigFrame Go.Sort
attribute [local go_sem] Oper.semAt_some
attribute [local go_sem] World.cell?_alloc_some
namespace JD
variable {n : Nat} {P : Nat → Pt} {E : Nat → Sg} {s : Nat → Int} {K : Int} {q : Nat → Int}
theorem smI_mul (c : Int) (F : Nat → Int) : ∀ n, smI (fun i => c * F i) n = c * smI F n
  | 0 => by simp [smI]
  | n + 1 => by rw [smI, smI, smI_mul c F n, Int.mul_add]
theorem smI_swap (F : Nat → Nat → Int) (m : Nat) : ∀ n, smI (fun i => smI (fun j => F i j) m) n = smI (fun j => smI (fun i => F i j) n) m
  | 0 => by
    show (0 : Int) = _
    exact (smI_zero (fun j _ => rfl)).symm
  | n + 1 => by
    rw [smI, smI_swap F m n, ← smI_add]
    exact smI_congr fun j _ => rfl
theorem smI_nn : ∀ {n : Nat} {F : Nat → Int}, (∀ i, i < n → 0 ≤ F i) → 0 ≤ smI F n
  | 0, _, _ => Int.le_refl _
  | n + 1, F, h => by
    have := smI_nn (n := n) (fun i hi => h i (by omega))
    have := h n (by omega)
    rw [smI]; omega
theorem smI_pos : ∀ {n : Nat} {F : Nat → Int} {k : Nat}, (∀ i, i < n → 0 ≤ F i) → k < n → 0 < F k → 0 < smI F n
  | 0, _, _, _, h, _ => absurd h (by omega)
  | n + 1, F, k, h, hk, hp => by
    rw [smI]
    by_cases e : k = n
    · subst e
      have := smI_nn (n := k) (fun i hi => h i (by omega)); omega
    · have := smI_pos (n := n) (fun i hi => h i (by omega)) (show k < n by omega) hp
      have := h n (by omega); omega
theorem smI_np {n : Nat} {F : Nat → Int} (h : ∀ i, i < n → F i ≤ 0) : smI F n ≤ 0 := by
  have h1 := smI_nn (n := n) (F := fun i => -F i) (fun i hi => by have := h i hi; omega)
  rw [smI_neg] at h1; omega
theorem smI_ng {n : Nat} {F : Nat → Int} {k : Nat} (h : ∀ i, i < n → F i ≤ 0) (hk : k < n) (hp : F k < 0) : smI F n < 0 := by
  have h1 := smI_pos (n := n) (F := fun i => -F i) (fun i hi => by have := h i hi; omega) hk (by omega)
  rw [smI_neg] at h1; omega
theorem layer {y y0 : Int} (h : y0 ≤ y) : ∀ H : Nat, (y ≤ y0 + (H : Int) → smI (fun i => b1 (y0 + (i : Int) < y)) H = y - y0) ∧ (y0 + (H : Int) ≤ y → smI (fun i => b1 (y0 + (i : Int) < y)) H = (H : Int))
  | 0 => ⟨fun k => by have : y = y0 := by omega
                      subst this; simp [smI], fun _ => rfl⟩
  | H + 1 => by
    obtain ⟨a, b⟩ := layer h H
    rw [smI]
    refine ⟨fun k => ?_, fun k => ?_⟩
    · by_cases c : y ≤ y0 + (H : Int)
      · rw [a c, b1_f (by omega)]; omega
      · rw [b (by omega), b1_t (by omega)]; omega
    · rw [b (by omega), b1_t (by omega)]; omega
theorem ex_bd (f g : Nat → Int) : ∀ n, ∃ t0 : Int, ∃ H : Nat, ∀ j, j < n → t0 ≤ f j ∧ g j ≤ t0 + (H : Int)
  | 0 => ⟨0, 0, fun j h => by omega⟩
  | n + 1 => by
    obtain ⟨t0, H, h⟩ := ex_bd f g n
    refine ⟨min t0 (f n), (max (t0 + H) (g n) - min t0 (f n)).toNat, fun j hj => ?_⟩
    by_cases a : j < n
    · have := h j a; omega
    · obtain rfl : j = n := by omega
      omega
theorem b1_and (p q : Prop) [Decidable p] [Decidable q] : b1 (p ∧ q) = b1 p * b1 q := by
  by_cases hp : p
  · rw [b1_t hp, Int.one_mul]; exact b1_c ⟨fun h => h.2, fun h => ⟨hp, h⟩⟩
  · rw [b1_f hp, Int.zero_mul]; exact b1_f (fun h => hp h.1)
/-- A strip's part of the area. -/
def VV (E : Nat → Sg) (s : Nat → Int) (q : Nat → Int) (n : Nat) (t : Int) : Int := smI (fun j => s j * (b1 (hh (E j).a ≤ t ∧ t < hh (E j).b) * (q j * NN (E j) t))) n
theorem JP.flat (J : JP n P E s) (t : Int) : smI (fun j => s j * b1 (hh (E j).a ≤ t ∧ t < hh (E j).b)) n = 0 := by
  rw [← J.tele (fun Q => b1 (t < hh Q))]
  refine smI_congr fun j hj => ?_
  have u : hh (E j).a < hh (E j).b := J.up j hj
  try simp only
  congr 1
  by_cases c1 : t < hh (E j).a
  · rw [b1_f (by omega), b1_t (p := t < hh (E j).b) (by omega), b1_t c1]; rfl
  · rw [b1_f (p := t < hh (E j).a) c1, Int.sub_zero]
    exact b1_c ⟨fun h => h.2, fun h => ⟨by omega, h⟩⟩
theorem JP.strip (J : JP n P E s) (Y : YY n E K q) (t : Int) :
    (cc E s n 0 = 1 → 0 ≤ VV E s q n t ∧ ((∃ j, j < n ∧ In E j t) → 0 < VV E s q n t)) ∧ (cc E s n 0 = 0 → VV E s q n t ≤ 0 ∧ ((∃ j, j < n ∧ In E j t) → VV E s q n t < 0)) := by
  obtain ⟨y0, H, hy⟩ := ex_bd (fun j => q j * NN (E j) t - 1) (fun j => q j * NN (E j) t) n
  obtain ⟨w, hw⟩ : ∃ w : Nat → Int, w = fun (i : Nat) => smI (fun j => s j * b1 ((hh (E j).a ≤ t ∧ t < hh (E j).b) ∧ y0 + (i : Int) < q j * NN (E j) t)) n := ⟨_, rfl⟩
  have hV : VV E s q n t = smI w H := by
    have e1 : ∀ j, j < n → s j * (b1 (hh (E j).a ≤ t ∧ t < hh (E j).b) * (q j * NN (E j) t)) = y0 * (s j * b1 (hh (E j).a ≤ t ∧ t < hh (E j).b)) + smI (fun i => s j * b1 ((hh (E j).a ≤ t ∧ t < hh (E j).b) ∧ y0 + (i : Int) < q j * NN (E j) t)) H := fun j hj => by
      have hb := hy j hj
      try simp only at hb
      have hl := (layer (y := q j * NN (E j) t) (y0 := y0) (by omega) H).1 hb.2
      rw [smI_mul, smI_congr (G := fun i => b1 (hh (E j).a ≤ t ∧ t < hh (E j).b) * b1 (y0 + (i : Int) < q j * NN (E j) t)) (fun i _ => b1_and _ _), smI_mul, hl]
      grind
    unfold VV
    rw [smI_congr e1, smI_add, smI_mul, J.flat, Int.mul_zero, Int.zero_add, smI_swap (fun j i => s j * b1 ((hh (E j).a ≤ t ∧ t < hh (E j).b) ∧ y0 + (i : Int) < q j * NN (E j) t)) H n, hw]
  have hc : ∀ i, w i = 0 ∨ w i = cc E s n 0 ∨ w i = cc E s n 0 - 1 := fun i => by
    rw [hw]
    exact J.closed Y t (fun j => (hh (E j).a ≤ t ∧ t < hh (E j).b) ∧ y0 + (i : Int) < q j * NN (E j) t) (fun j _ h => h.1) (fun a b _ _ ha hb hlt => ⟨hb, by have := ha.2; omega⟩)
  have hk : (∃ j, j < n ∧ In E j t) → ∃ i, i < H ∧ (w i = 1 ∨ w i = -1) := fun h0 => by
    obtain ⟨k, hk, hr, hx⟩ := ex_max (fun j => q j * NN (E j) t) (fun j => In E j t) n h0
    have hb := hy k hk
    try simp only at hb
    refine ⟨(q k * NN (E k) t - 1 - y0).toNat, by omega, ?_⟩
    have e1 : w (q k * NN (E k) t - 1 - y0).toNat = s k := by
      rw [hw]
      simp only
      rw [smI_one hk (fun j hj hne => by
        show s j * b1 _ = 0
        rw [b1_f (fun h => ?_), Int.mul_zero]
        have h1 : q j * NN (E j) t ≤ q k * NN (E k) t := hx j hj h.1
        have h2 := J.y_ne Y hj hk hne h.1 hr
        have := h.2
        omega), b1_t ⟨hr, by omega⟩, Int.mul_one]
    rw [e1]
    rcases J.dir k hk with ⟨d, _⟩ | ⟨d, _⟩ <;> rw [d] <;> simp
  rw [hV]
  refine ⟨fun c => ⟨smI_nn fun i _ => ?_, fun h0 => ?_⟩, fun c => ⟨smI_np fun i _ => ?_, fun h0 => ?_⟩⟩
  · have := hc i; omega
  · obtain ⟨i, hi, h⟩ := hk h0
    have hci := hc i
    exact smI_pos (k := i) (fun a _ => by have := hc a; omega) hi (by omega)
  · have := hc i; omega
  · obtain ⟨i, hi, h⟩ := hk h0
    have hci := hc i
    exact smI_ng (k := i) (fun a _ => by have := hc a; omega) hi (by omega)
/-- What lies left of an edge, below a height. -/
def QQ (e : Sg) (u : Int) : Int := 2 * e.a.x * dl e * (u - hh e.a) + (e.b.x - e.a.x) * ((u - hh e.a) * (u - hh e.a))
theorem qq_next (e : Sg) (u : Int) : QQ e (u + 1) = QQ e u + NN e u := by unfold QQ NN; grind
theorem qq_bot (e : Sg) : QQ e (hh e.a) = 0 := by unfold QQ; grind
theorem qq_top (e : Sg) : QQ e (hh e.b) = dl e * (dl e * (e.a.x + e.b.x)) := by unfold QQ dl; grind
theorem trapez {e : Sg} (he : Up e) (t0 : Int) (h0 : t0 ≤ hh e.a) : ∀ H : Nat, (t0 + (H : Int) ≤ hh e.a → smI (fun i => b1 (hh e.a ≤ t0 + (i : Int) ∧ t0 + (i : Int) < hh e.b) * NN e (t0 + (i : Int))) H = 0) ∧
    (hh e.a ≤ t0 + (H : Int) → t0 + (H : Int) ≤ hh e.b → smI (fun i => b1 (hh e.a ≤ t0 + (i : Int) ∧ t0 + (i : Int) < hh e.b) * NN e (t0 + (i : Int))) H = QQ e (t0 + (H : Int))) ∧
    (hh e.b ≤ t0 + (H : Int) → smI (fun i => b1 (hh e.a ≤ t0 + (i : Int) ∧ t0 + (i : Int) < hh e.b) * NN e (t0 + (i : Int))) H = QQ e (hh e.b))
  | 0 => by
    unfold Up at he
    refine ⟨fun _ => rfl, fun h1 _ => ?_, fun h1 => ?_⟩
    · have : t0 + ((0 : Nat) : Int) = hh e.a := by omega
      rw [this, qq_bot]; rfl
    · omega
  | H + 1 => by
    obtain ⟨a, b, c⟩ := trapez he t0 h0 H
    unfold Up at he
    rw [smI]
    refine ⟨fun h1 => ?_, fun h1 h2 => ?_, fun h1 => ?_⟩
    · rw [a (by omega), b1_f (by omega)]; omega
    · by_cases d : hh e.a ≤ t0 + (H : Int)
      · rw [b d (by omega), b1_t ⟨d, by omega⟩, show t0 + ((H + 1 : Nat) : Int) = t0 + (H : Int) + 1 from by omega, qq_next]; omega
      · have : t0 + ((H + 1 : Nat) : Int) = hh e.a := by omega
        rw [a (by omega), b1_f (fun k => d k.1), this, qq_bot]; omega
    · by_cases d : hh e.b ≤ t0 + (H : Int)
      · rw [c d, b1_f (by omega)]; omega
      · have h3 : t0 + (H : Int) + 1 = hh e.b := by omega
        rw [b (by omega) (by omega), b1_t ⟨by omega, by omega⟩, ← h3, qq_next]; omega
/-- The sign of the area. -/
theorem JP.area (J : JP n P E s) :
    (cc E s n 0 = 1 → 0 < smI (fun j => s j * (dl (E j) * ((E j).a.x + (E j).b.x))) n) ∧ (cc E s n 0 = 0 → smI (fun j => s j * (dl (E j) * ((E j).a.x + (E j).b.x))) n < 0) := by
  obtain ⟨K, q, Y⟩ := J.ex_Y
  obtain ⟨t0, H, ht⟩ := ex_bd (fun j => hh (E j).a) (fun j => hh (E j).b) n
  have e1 : K * smI (fun j => s j * (dl (E j) * ((E j).a.x + (E j).b.x))) n = smI (fun i => VV E s q n (t0 + (i : Int))) H := by
    rw [← smI_mul]
    unfold VV
    rw [← smI_swap (fun j i => s j * (b1 (hh (E j).a ≤ t0 + (i : Int) ∧ t0 + (i : Int) < hh (E j).b) * (q j * NN (E j) (t0 + (i : Int))))) H n]
    refine smI_congr fun j hj => ?_
    have hb := ht j hj
    have tr := (trapez (J.up j hj) t0 hb.1 H).2.2 hb.2
    have hK := Y.e j hj
    rw [smI_congr (G := fun i => s j * q j * (b1 (hh (E j).a ≤ t0 + (i : Int) ∧ t0 + (i : Int) < hh (E j).b) * NN (E j) (t0 + (i : Int)))) (fun i _ => by grind), smI_mul, tr, qq_top, ← hK]
    grind
  have n3 := J.n3
  have hb := ht 0 (by omega)
  try simp only at hb
  have u : hh (E 0).a < hh (E 0).b := J.up 0 (by omega)
  have hi : (hh (E 0).a - t0).toNat < H := by omega
  have hin : ∃ j, j < n ∧ In E j (t0 + (((hh (E 0).a - t0).toNat : Nat) : Int)) := ⟨0, by omega, by unfold In; omega⟩
  refine ⟨fun c => ?_, fun c => ?_⟩
  · have h1 := smI_pos (n := H) (F := fun i => VV E s q n (t0 + (i : Int))) (k := (hh (E 0).a - t0).toNat) (fun i _ => ((J.strip Y _).1 c).1) hi (((J.strip Y _).1 c).2 hin)
    rw [← e1] at h1
    rcases Int.lt_or_le 0 (smI (fun j => s j * (dl (E j) * ((E j).a.x + (E j).b.x))) n) with z | z
    · exact z
    · have := Int.mul_nonpos_of_nonneg_of_nonpos (Int.le_of_lt Y.K0) z; omega
  · have h1 := smI_ng (n := H) (F := fun i => VV E s q n (t0 + (i : Int))) (k := (hh (E 0).a - t0).toNat) (fun i _ => ((J.strip Y _).2 c).1) hi (((J.strip Y _).2 c).2 hin)
    rw [← e1] at h1
    rcases Int.lt_or_le (smI (fun j => s j * (dl (E j) * ((E j).a.x + (E j).b.x))) n) 0 with z | z
    · exact z
    · have := Int.mul_nonneg (Int.le_of_lt Y.K0) z; omega
end JD
end Go.Proofs.Ytdefpcjlbganpaa
namespace Go.Proofs.Ytdefpcjlbganpaa
open Go.RowKit Go.Shelf Go.BigFrame Go.Sort
attribute [local go_sem] Oper.semAt_some
attribute [local go_sem] World.cell?_alloc_some
namespace JD
theorem smp_mtg {l : List Pt} (hck : ck 3 l = 0) (hs : smp l = true) {i j : Nat} (hij : i < j) (hj : j < l.length) : mtg (eg l i) (eg l j) = if j = i + 1 ∨ (i = 0 ∧ j + 1 = l.length) then 1 else 0 := by
  obtain ⟨_, h2, _⟩ := ck_len hck
  unfold smp at hs
  have h := List.all_eq_true.1 hs (i, eg l i) (List.mem_map.2 ⟨i, by simpa using (show i < l.length by omega), rfl⟩)
  have h3 : ¬ ((egs l).any (badP l.length (i, eg l i))) = true := by simpa using h
  have h4 : badP l.length (i, eg l i) (j, eg l j) = false := by
    cases hb : badP l.length (i, eg l i) (j, eg l j)
    · rfl
    · exact absurd (List.any_eq_true.2 ⟨(j, eg l j), List.mem_map.2 ⟨j, by simpa using hj, rfl⟩, hb⟩) h3
  unfold badP at h4
  simp only at h4
  rw [decide_eq_true (show (i : Int) < (j : Int) by omega), Bool.true_and, Bool.not_eq_false', decide_eq_true_eq] at h4
  rw [h4, w64 (by omega)]
  unfold smM
  rw [w64 (by omega)]
  by_cases c : j = i + 1 ∨ (i = 0 ∧ j + 1 = l.length)
  · rw [if_pos c, if_pos (by omega)]
  · rw [if_neg c, if_neg (by omega)]
theorem near_l {l : List Pt} (hck : ck 3 l = 0) (hs : smp l = true) {i : Nat} (hi : i < l.length) : mtg (eg l i) (eg l ((i + 1) % l.length)) = 1 := by
  obtain ⟨h1, _, _⟩ := ck_len hck
  rcases Nat.lt_or_ge (i + 1) l.length with a | a
  · rw [Nat.mod_eq_of_lt a, smp_mtg hck hs (by omega) a, if_pos (.inl rfl)]
  · have : i + 1 = l.length := by omega
    rw [this, Nat.mod_self, mtg_comm, smp_mtg hck hs (by omega) hi, if_pos (.inr ⟨rfl, this⟩)]
theorem good_l {l : List Pt} (hck : ck 3 l = 0) (hs : smp l = true) {i : Nat} (hi : i < l.length) : okG (eg l i) = true := by
  cases h : okG (eg l i)
  · have := near_l hck hs hi
    rw [mtg_off (.inl h)] at this
    cases this
  · rfl
theorem far_l {l : List Pt} (hck : ck 3 l = 0) (hs : smp l = true) {i j : Nat} (hi : i < l.length) (hj : j < l.length) (h : i ≠ j) (h1 : (i + 1) % l.length ≠ j) (h2 : (j + 1) % l.length ≠ i) : mtg (eg l i) (eg l j) = 0 := by
  have one : ∀ {i j : Nat}, i < j → j < l.length → (i + 1) % l.length ≠ j → (j + 1) % l.length ≠ i → mtg (eg l i) (eg l j) = 0 := fun {i j} hij hj h1 h2 => by
    rw [smp_mtg hck hs hij hj, if_neg]
    rintro (c | ⟨c, d⟩)
    · rw [Nat.mod_eq_of_lt (by omega)] at h1; omega
    · rw [d, Nat.mod_self] at h2; omega
  rcases Nat.lt_or_ge i j with a | a
  · exact one a hj h1 h2
  · rw [mtg_comm]; exact one (by omega) hi h2 h1
theorem inj_l {l : List Pt} (hck : ck 3 l = 0) (hs : smp l = true) {i j : Nat} (hi : i < l.length) (hj : j < l.length) (h : pt l i = pt l j) : i = j := by
  obtain ⟨h3, _, _⟩ := ck_len hck
  have one : ∀ {i j : Nat}, i < j → j < l.length → pt l i = pt l j → False := fun {i j} hij hj h => by
    by_cases h1 : (i + 1) % l.length = j
    · have := (okG_iff.1 (good_l hck hs (show i < l.length by omega))).2.2
      refine this ?_
      show pt l i = pt l ((i + 1) % l.length)
      rw [h1, h]
    · by_cases h2 : (j + 1) % l.length = i
      · have := (okG_iff.1 (good_l hck hs hj)).2.2
        refine this ?_
        show pt l j = pt l ((j + 1) % l.length)
        rw [h2, h]
      · have h0 := far_l hck hs (show i < l.length by omega) hj (by omega) h1 h2
        have he : IsEnd (eg l i) (eg l j) (pt l i) := isEnd_both (.inl rfl) (.inl h)
        rcases mtg_cases (good_l hck hs (show i < l.length by omega)) (good_l hck hs hj) with ⟨_, k, _⟩ | ⟨k, _⟩ | ⟨k, _⟩ | ⟨k, _⟩
        · exact k (isEnd_iff.2 ⟨_, he⟩)
        · omega
        · omega
        · omega
  rcases Nat.lt_trichotomy i j with a | a | a
  · exact (one a hj h).elim
  · exact a
  · exact (one a hi h.symm).elim
/-- An edge with its lower end first. -/
def eu (l : List Pt) (i : Nat) : Sg := if hh (eg l i).a < hh (eg l i).b then eg l i else bk (eg l i)
def es (l : List Pt) (i : Nat) : Int := if hh (eg l i).a < hh (eg l i).b then 1 else -1
theorem eu_cases (l : List Pt) (i : Nat) : (hh (eg l i).a < hh (eg l i).b ∧ es l i = 1 ∧ eu l i = eg l i) ∨ (¬ hh (eg l i).a < hh (eg l i).b ∧ es l i = -1 ∧ eu l i = bk (eg l i)) := by
  unfold es eu
  by_cases h : hh (eg l i).a < hh (eg l i).b
  · left; exact ⟨h, if_pos h, if_pos h⟩
  · right; exact ⟨h, if_neg h, if_neg h⟩
theorem mtg_eu (l : List Pt) (i j : Nat) : mtg (eu l i) (eu l j) = mtg (eg l i) (eg l j) := by
  rcases eu_cases l i with ⟨_, _, e1⟩ | ⟨_, _, e1⟩ <;> rcases eu_cases l j with ⟨_, _, e2⟩ | ⟨_, _, e2⟩ <;> rw [e1, e2]
  · rw [mtg_comm, mtg_bk, mtg_comm]
  · rw [mtg_bk]
  · rw [mtg_bk, mtg_comm, mtg_bk, mtg_comm]
theorem jp_of {l : List Pt} (hck : ck 3 l = 0) (hs : smp l = true) : JP l.length (pt l) (eu l) (es l) := by
  obtain ⟨h1, h2, h3⟩ := ck_len hck
  have hok := List.all_eq_true.1 h3
  refine ⟨h1, fun i hi => hok _ (pt_in l i hi), fun i _ => ?_, fun i hi => ?_, fun i hi => ?_, fun i j hi hj h a b => ?_, fun i hi => ?_, fun i j hi hj h => inj_l hck hs hi hj h⟩
  · rcases eu_cases l i with ⟨_, e1, e2⟩ | ⟨_, e1, e2⟩
    · exact .inl ⟨e1, e2⟩
    · exact .inr ⟨e1, e2⟩
  · obtain ⟨o1, o2, o3⟩ := okG_iff.1 (good_l hck hs hi)
    rcases eu_cases l i with ⟨k, _, e2⟩ | ⟨k, _, e2⟩ <;> rw [e2]
    · exact k
    · have hne : hh (eg l i).a ≠ hh (eg l i).b := fun e => o3 (hh_inj o1 o2 e)
      show hh (eg l i).b < hh (eg l i).a
      omega
  · rcases eu_cases l i with ⟨_, _, e2⟩ | ⟨_, _, e2⟩ <;> rw [e2]
    · exact good_l hck hs hi
    · rw [okG_bk]; exact good_l hck hs hi
  · rw [mtg_eu]; exact far_l hck hs hi hj h a b
  · rw [mtg_eu]; exact near_l hck hs hi
theorem wdg_up {e : Sg} {p : Pt} (ha : okP e.a = true) (hb : okP e.b = true) (hp : okP p = true) (hu : Up e) : wdg p e = b1 (hh e.a ≤ hh p ∧ hh p < hh e.b ∧ 0 < ar e.a e.b p) := by
  have ht := trn_ok ha hb hp
  have tp : 0 < trn e.a e.b p ↔ 0 < ar e.a e.b p := by rw [ht]; unfold sg; split <;> (try split) <;> omega
  obtain ⟨⟨a1, a2⟩, b1', b2'⟩ := e
  obtain ⟨x, y⟩ := p
  unfold Up at hu
  unfold okP at ha hb hp
  simp only [Bool.and_eq_true] at ha hb hp
  have c1 := okc_b ha.1
  have c2 := okc_b ha.2
  have c3 := okc_b hb.1
  have c4 := okc_b hb.2
  have c5 := okc_b hp.1
  have c6 := okc_b hp.2
  unfold wdg
  simp only at *
  unfold hh at hu
  simp only at hu
  have iff1 : (a2 ≤ y ∧ y < b2' ∧ 0 < trn ⟨a1, a2⟩ ⟨b1', b2'⟩ ⟨x, y⟩) ↔ (hh ⟨a1, a2⟩ ≤ hh ⟨x, y⟩ ∧ hh ⟨x, y⟩ < hh ⟨b1', b2'⟩ ∧ 0 < ar ⟨a1, a2⟩ ⟨b1', b2'⟩ ⟨x, y⟩) := by
    rw [tp]
    unfold hh
    simp only
    constructor
    · rintro ⟨h1, h2, h3⟩
      refine ⟨?_, by omega, h3⟩
      by_cases c : a2 < y
      · omega
      · obtain rfl : a2 = y := by omega
        have h4 : 0 < (b2' - a2) * (a1 - x) := by unfold ar at h3; simp only at h3; grind
        rcases Int.lt_or_le x a1 with z | z
        · omega
        · have := Int.mul_nonpos_of_nonneg_of_nonpos (show 0 ≤ b2' - a2 by omega) (show a1 - x ≤ 0 by omega); omega
    · rintro ⟨h1, h2, h3⟩
      refine ⟨by omega, ?_, h3⟩
      by_cases c : y < b2'
      · exact c
      · obtain rfl : y = b2' := by omega
        have h4 : 0 < (y - a2) * (b1' - x) := by unfold ar at h3; simp only at h3; grind
        have := Int.mul_nonpos_of_nonneg_of_nonpos (show 0 ≤ y - a2 by omega) (show b1' - x ≤ 0 by omega); omega
  by_cases h : a2 ≤ y ∧ y < b2' ∧ 0 < trn ⟨a1, a2⟩ ⟨b1', b2'⟩ ⟨x, y⟩
  · rw [if_pos h, b1_t (iff1.1 h)]
  · rw [if_neg h, b1_f (fun k => h (iff1.2 k)), if_neg]
    rintro ⟨h1, h2, _⟩
    omega
theorem wdg_eu {l : List Pt} (hck : ck 3 l = 0) (hs : smp l = true) {p : Pt} (hp : okP p = true) {i : Nat} (hi : i < l.length) :
    wdg p (eg l i) = es l i * b1 (hh (eu l i).a ≤ hh p ∧ hh p < hh (eu l i).b ∧ 0 < ar (eu l i).a (eu l i).b p) := by
  have J := jp_of hck hs
  rw [← wdg_up (J.oka hi) (J.okb hi) hp (J.up i hi)]
  rcases eu_cases l i with ⟨_, e1, e2⟩ | ⟨_, e1, e2⟩ <;> rw [e1, e2]
  · omega
  · rw [wdg_bk]; omega
theorem area_eu (l : List Pt) : 4194304 * smI (fun i => crs (eg l i)) l.length = smI (fun j => es l j * (dl (eu l j) * ((eu l j).a.x + (eu l j).b.x))) l.length := by
  have h1 := smI_shift (fun i => (pt l i).x * hh (pt l i)) l.length
  have h2 : smI (fun j => es l j * (dl (eu l j) * ((eu l j).a.x + (eu l j).b.x))) l.length = smI (fun i => 4194304 * crs (eg l i) + ((pt l ((i + 1) % l.length)).x * hh (pt l ((i + 1) % l.length)) + -((pt l i).x * hh (pt l i)))) l.length := smI_congr fun i hi => by
    rcases eu_cases l i with ⟨_, e1, e2⟩ | ⟨_, e1, e2⟩ <;> rw [e1, e2] <;> unfold crs dl hh eg <;> simp only [bk] <;> grind
  rw [h2, smI_add, smI_add, smI_neg (fun i => (pt l i).x * hh (pt l i)), h1, smI_mul]; omega
/-- A simple polygon has an area, and goes around no point but those inside, once, by the area's sign. -/
theorem jordan {l : List Pt} (hck : ck 3 l = 0) {p : Pt} (hp : okP p = true) (hs : smp l = true) : awr (egs l) ≠ 0 ∧ (wnr p (egs l) = 0 ∨ wnr p (egs l) = if awr (egs l) < 0 then -1 else 1) := by
  have J := jp_of hck hs
  have hw : wnr p (egs l) = smI (fun j => es l j * b1 (hh (eu l j).a ≤ hh p ∧ hh p < hh (eu l j).b ∧ 0 < ar (eu l j).a (eu l j).b p)) l.length := by
    rw [(wnr_smI p hck).1]
    exact smI_congr fun i hi => wdg_eu hck hs hp hi
  have ha := area_eu l
  rw [← (awr_smI hck).1] at ha
  have hA := J.area
  rw [← ha] at hA
  have hW := J.wind p
  rw [← hw] at hW
  rcases J.c01 with c | c
  · have := hA.2 c
    rw [if_pos (by omega)]
    omega
  · have := hA.1 c
    rw [if_neg (by omega)]
    omega
end JD
theorem rf_of {l : List Pt} {p : Pt} (h : ck 3 l = 0) (hp : okP p = true) : RF l p :=
  ⟨rf_e1 h, rf_e2 h, rf_e3 p h, rf_e4 p h, fun hs => ⟨(JD.jordan h hp hs).1, fun _ => (JD.jordan h hp hs).2⟩⟩
/-- The law of fair rings answers true. -/
theorem rfLaw (q : Option Addr) (cap : Nat) (l : List Pt) (p : Pt) (w : World) (hl : l.length ≤ 140737488355327) (hp : PtsAt w q l) :
    Calls Try.prog 12 #[.slice q l.length cap, p.v] w fun e w' => e = .returned (.bool true) ∧ Below w.heap.size w w' :=
  ringsFair_of q cap l p w hl hp (fun h _ ho => rf_of h ho)
end Go.Proofs.Ytdefpcjlbganpaa
