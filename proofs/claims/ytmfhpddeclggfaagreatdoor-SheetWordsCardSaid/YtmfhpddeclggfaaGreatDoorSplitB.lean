import Derived.Test.YtmfhpddeclggfaaGreatDoorSplitA
import Derived.WalkKit
import Derived.LoopTactic
import Derived.WalkSpells
import Derived.WalkLawsBesides
import Derived.Lib.Hide
import Derived.BigQuiet
import Derived.IntWalk
import Derived.Deep.DeepMust
import Derived.WalkSmall
import Derived.StillTailTactics
import Derived.Lib.SlBytesConst
import Derived.Deep.RegionLaw
import Derived.Deep.QuietTactic
namespace Go.Proofs.YtmfhpddeclggfaaGreatDoor
open Go.RowKit
theorem setCell2_far (w : World) (b o1 o2 b2 o : Nat) (x y : Value) (h : b ≠ b2) : ((w.setCell ⟨b, o1, none⟩ x).setCell ⟨b, o2, none⟩ y).cell? ⟨b2, o, none⟩ = w.cell? ⟨b2, o, none⟩ :=
  (World.cell?_setCell_other (w.setCell ⟨b, o1, none⟩ x) ⟨b, o2, none⟩ ⟨b2, o, none⟩ y (fun e => h (congrArg Addr.block e))).trans (World.cell?_setCell_other w ⟨b, o1, none⟩ ⟨b2, o, none⟩ x (fun e => h (congrArg Addr.block e)))
theorem sCutSp (b : ByteArray) (w : World) (hs : b.size ≤ 1000000) :
    Calls Tryz.prog 131 #[.string b, .string ⟨#[32]⟩] w fun e w' => e = .returned (.tuple #[.string ⟨(Lib.trimSuffix b.data.toList [32]).toArray⟩, .bool (Lib.hasSuffix b.data.toList [32])]) ∧ w = w' :=
  (Tryz.strings_CutSuffix b ⟨#[32]⟩ w (by omega)).mono fun _ _ ⟨h1, h2⟩ => ⟨h1, h2.symm⟩
/-- What a split of the parts leaves. -/
def PartsP (PS : List ByteArray) (W : World) (e : Ending) (w' : World) : Prop := ∃ (k cap : Nat), k = PS.length ∧ k ≤ cap ∧ cap ≤ 42 ∧ e = .returned (.slice (some ⟨W.heap.size, 0, none⟩) k cap) ∧ Below W.heap.size W w' ∧ W.heap.size < w'.heap.size ∧
      ∀ j, j < PS.length → w'.cell? ⟨W.heap.size, j, none⟩ = some (.string (PS.getD j ByteArray.empty))
theorem sSplitP (b : ByteArray) (w : World) (hs : b.size ≤ 1000000) (he : Env w) :
    Calls Tryz.prog 132 #[.string b, .string ⟨#[32]⟩, .int .i64 42] w (PartsP (partsOf b) w) :=
  (sSplitN b w hs he).mono fun _ _ ⟨h1, h2, h3, h4, h5⟩ => ⟨_, _, rfl, h4, Nat.min_le_left _ _, h1, h2, h3, h5⟩
def zeroLine : Value := .agg #[.int .i64 0, .slice none 0 0]
set_option maxRecDepth 100000 in
set_option maxHeartbeats 1000000 in
theorem split_short (s : ByteArray) (w : World) (h4 : s.size < 4) :
    Calls Tryz.prog 93 #[.string s] w fun e w' => Below w.heap.size w w' ∧ e = .returned (.tuple #[.agg #[.int .i64 0, .slice none 0 0], .bool false]) := by
  have hlt : ((s.size : Int) < 4) := by omega
  clear h4
  go_enter Tryz.func93, Tryz.ntmps93
  go_wp2_with fail
  refine bodyPost_ret (v := .tuple #[.agg #[.int .i64 0, .slice none 0 0], .bool false]) (by simp [results, Tryz.results93, go_sem]) rfl ⟨below_alloc1 _ _, rfl⟩
set_option maxRecDepth 100000 in
set_option maxHeartbeats 1000000 in
theorem split_nosp (s Bd T : ByteArray) (w : World) (hlt : ¬ ((s.size : Int) < 4))
    (C1 : Hid (Calls Tryz.prog 94 #[.string s] (w.alloc (.cells #[.int .i64 0, .slice none 0 0] 39)) fun e w' => e = .returned (.string Bd) ∧ w.alloc (.cells #[.int .i64 0, .slice none 0 0] 39) = w'))
    (C2 : Hid (Calls Tryz.prog 131 #[.string Bd, .string ⟨#[32]⟩] (w.alloc (.cells #[.int .i64 0, .slice none 0 0] 39)) fun e w' => e = .returned (.tuple #[.string T, .bool false]) ∧ w.alloc (.cells #[.int .i64 0, .slice none 0 0] 39) = w')) :
    Calls Tryz.prog 93 #[.string s] w fun e w' => Below w.heap.size w w' ∧ e = .returned (.tuple #[.agg #[.int .i64 0, .slice none 0 0], .bool false]) := by
  go_enter Tryz.func93, Tryz.ntmps93
  go_wp2_with fail
  refine C1.out.mono ?_
  rintro e w' ⟨rfl, rfl⟩
  go_wp2_with fail
  refine C2.out.mono ?_
  rintro e w' ⟨rfl, rfl⟩
  go_wp2_with fail
  refine bodyPost_ret (v := .tuple #[.agg #[.int .i64 0, .slice none 0 0], .bool false]) (by simp [results, Tryz.results93, go_sem]) rfl ⟨below_alloc1 _ _, rfl⟩
/-- A fresh cell of a line, after calls. -/
structure ZC (w W : World) : Prop where
  c0 : W.cell? ⟨w.heap.size, 0, none⟩ = some (.int .i64 0)
  c1 : W.cell? ⟨w.heap.size, 1, none⟩ = some (.slice none 0 0)
  f0 : W.frozen? ⟨w.heap.size, 0, none⟩ = false
  f1 : W.frozen? ⟨w.heap.size, 1, none⟩ = false
  bel : Below w.heap.size w W
  lt : w.heap.size < W.heap.size
theorem ZC.mk0 (w : World) : ZC w (w.alloc (.cells #[.int .i64 0, .slice none 0 0] 39)) :=
  ⟨by simp, by simp, frozen_new w _ _ 0, frozen_new w _ _ 1, below_alloc1 _ _, by simp⟩
theorem ZC.next {w W W' : World} (h : ZC w W) (hb : Below W.heap.size W W') : ZC w W' := by
  refine ⟨?_, ?_, ?_, ?_, h.bel.trans (hb.mono (Nat.le_of_lt h.lt)), by have := hb.size; have := h.lt; omega⟩
  · rw [hb.cell (p := ⟨w.heap.size, 0, none⟩) h.lt]; exact h.c0
  · rw [hb.cell (p := ⟨w.heap.size, 1, none⟩) h.lt]; exact h.c1
  · rw [hb.frozen (p := ⟨w.heap.size, 0, none⟩) h.lt]; exact h.f0
  · rw [hb.frozen (p := ⟨w.heap.size, 1, none⟩) h.lt]; exact h.f1
theorem ZC.set {w W : World} (h : ZC w W) (x y : Value) : Below w.heap.size w ((W.setCell ⟨w.heap.size, 0, none⟩ x).setCell ⟨w.heap.size, 1, none⟩ y) :=
  (h.bel.setCell (p := ⟨w.heap.size, 0, none⟩) (Nat.le_refl _) _).setCell (p := ⟨w.heap.size, 1, none⟩) (Nat.le_refl _) _
set_option maxRecDepth 100000 in
set_option maxHeartbeats 1000000 in
theorem split_few (s Bd T : ByteArray) (PS : List ByteArray) (w : World) (hlt : ¬ ((s.size : Int) < 4)) (hl : Hid (PS.length < 2))
    (C1 : Hid (Calls Tryz.prog 94 #[.string s] (w.alloc (.cells #[.int .i64 0, .slice none 0 0] 39)) fun e w' => e = .returned (.string Bd) ∧ w.alloc (.cells #[.int .i64 0, .slice none 0 0] 39) = w'))
    (C2 : Hid (Calls Tryz.prog 131 #[.string Bd, .string ⟨#[32]⟩] (w.alloc (.cells #[.int .i64 0, .slice none 0 0] 39)) fun e w' => e = .returned (.tuple #[.string T, .bool true]) ∧ w.alloc (.cells #[.int .i64 0, .slice none 0 0] 39) = w'))
    (C3 : Hid (Calls Tryz.prog 132 #[.string T, .string ⟨#[32]⟩, .int .i64 42] (w.alloc (.cells #[.int .i64 0, .slice none 0 0] 39)) (PartsP PS (w.alloc (.cells #[.int .i64 0, .slice none 0 0] 39))))) :
    Calls Tryz.prog 93 #[.string s] w fun e w' => Below w.heap.size w w' ∧ e = .returned (.tuple #[.agg #[.int .i64 0, .slice none 0 0], .bool false]) := by
  go_enter Tryz.func93, Tryz.ntmps93
  go_wp2_with fail
  refine C1.out.mono ?_
  rintro e w' ⟨rfl, rfl⟩
  go_wp2_with fail
  refine C2.out.mono ?_
  rintro e w' ⟨rfl, rfl⟩
  go_wp2_with fail
  refine C3.out.mono ?_
  rintro e w1 ⟨k, cap, hk, hkc, hc42, rfl, hb, hsz, hcell⟩
  have hl2 : ((k : Nat) : Int) < 2 := by have := hl.out; omega
  have z := (ZC.mk0 w).next hb
  have Z := Lib.hid z
  have c0 := z.c0
  have c1 := z.c1
  have f0 := z.f0
  have f1 := z.f1
  clear z hb hcell hk
  rw [World.size_alloc] at *
  go_wp2_with fail
  refine bodyPost_ret (v := .tuple #[.agg #[.int .i64 0, .slice none 0 0], .bool false]) (by simp [results, Tryz.results93, go_sem, c0, c1]) rfl ⟨Z.out.set _ _, rfl⟩
def PFrom (B : Nat) (p : Option Addr) : Prop := ∀ a, p = some a → B ≤ a.block
/-- What the splitting of a line leaves. -/
def SplP (w : World) (N : Int) (ok : Bool) (ws : List ByteArray) (e : Ending) (w' : World) : Prop :=
  Below w.heap.size w w' ∧ ∃ (p : Option Addr) (k cap : Nat), e = .returned (.tuple #[.agg #[.int .i64 N, .slice p k cap], .bool ok]) ∧ k = ws.length ∧ PFrom w.heap.size p ∧ StrsAt w' p ws
set_option maxRecDepth 100000 in
set_option maxHeartbeats 1000000 in
theorem split_many (s Bd T : ByteArray) (PS : List ByteArray) (w : World) (hlt : ¬ ((s.size : Int) < 4)) (hl : Hid (2 ≤ PS.length)) (hP : Hid ((PS.getD 0 ByteArray.empty).size ≤ 1000000)) (he : Hid (Env w))
    (C1 : Hid (Calls Tryz.prog 94 #[.string s] (w.alloc (.cells #[.int .i64 0, .slice none 0 0] 39)) fun e w' => e = .returned (.string Bd) ∧ w.alloc (.cells #[.int .i64 0, .slice none 0 0] 39) = w'))
    (C2 : Hid (Calls Tryz.prog 131 #[.string Bd, .string ⟨#[32]⟩] (w.alloc (.cells #[.int .i64 0, .slice none 0 0] 39)) fun e w' => e = .returned (.tuple #[.string T, .bool true]) ∧ w.alloc (.cells #[.int .i64 0, .slice none 0 0] 39) = w'))
    (C3 : Hid (Calls Tryz.prog 132 #[.string T, .string ⟨#[32]⟩, .int .i64 42] (w.alloc (.cells #[.int .i64 0, .slice none 0 0] 39)) (PartsP PS (w.alloc (.cells #[.int .i64 0, .slice none 0 0] 39))))) :
    Calls Tryz.prog 93 #[.string s] w (SplP w (mkN (PS.getD 0 ByteArray.empty).data.toList) (mkOk (PS.getD 0 ByteArray.empty).data.toList) (PS.drop 2)) := by
  obtain ⟨P0, hP0⟩ : ∃ P0, PS.getD 0 ByteArray.empty = P0 := ⟨_, rfl⟩
  obtain ⟨N, hN⟩ : ∃ N, mkN P0.data.toList = N := ⟨_, rfl⟩
  obtain ⟨ok, hok⟩ : ∃ ok, mkOk P0.data.toList = ok := ⟨_, rfl⟩
  have hsz0 := hP.out
  rw [hP0] at hsz0
  rw [hP0, hN, hok]
  have HS := Lib.hid hsz0
  have HP0 := Lib.hid hP0
  have HN := Lib.hid hN
  have HO := Lib.hid hok
  clear hsz0 hP0 hN hok hP
  go_enter Tryz.func93, Tryz.ntmps93
  go_wp2_with fail
  refine C1.out.mono ?_
  rintro e w' ⟨rfl, rfl⟩
  go_wp2_with fail
  refine C2.out.mono ?_
  rintro e w' ⟨rfl, rfl⟩
  go_wp2_with fail
  refine C3.out.mono ?_
  rintro e w1 ⟨k, cap, hk, hkc, hc42, rfl, hb, hsz, hcell⟩
  have hl2 : ¬ ((k : Nat) : Int) < 2 := by have := hl.out; omega
  have hk2 : 2 ≤ k := by have := hl.out; omega
  have z := (ZC.mk0 w).next hb
  have Z := Lib.hid z
  have hp0 := hcell 0 (by have := hl.out; omega)
  rw [HP0.out] at hp0
  have ev := he.out.next z.bel
  have c4 := sMarked P0 w1 HS.out ev
  unfold mkRes at c4
  change Calls Tryz.prog 99 #[.string P0] w1 fun e w' => e = .returned (.tuple #[.int .i64 (mkN P0.data.toList), .bool (mkOk P0.data.toList)]) ∧ Below w1.heap.size w1 w' at c4
  rw [HN.out, HO.out] at c4
  have C4 := Lib.hid c4
  have HC := Lib.hid hcell
  have HS1 := Lib.hid hsz
  have HK := Lib.hid hk
  clear z hb hcell hk c4 ev hsz
  rw [World.size_alloc] at *
  go_wp2_with fail
  refine C4.out.mono ?_
  rintro e w2 ⟨rfl, hb2⟩
  have z := Z.out.next hb2
  have Z2 := Lib.hid z
  have c0 := z.c0
  have c1 := z.c1
  have f0 := z.f0
  have f1 := z.f1
  have HC2 : Hid (w.heap.size + 1 < w2.heap.size ∧ ∀ j, j < PS.length → w2.cell? ⟨w.heap.size + 1, j, none⟩ = some (.string (PS.getD j ByteArray.empty))) := by
    have h1 := HS1.out
    have h2 := hb2.size
    refine ⟨by omega, fun j hj => ?_⟩
    have := HC.out j hj
    rw [hb2.cell (p := ⟨w.heap.size + 1, j, none⟩) (by show w.heap.size + 1 < _; omega)]
    exact this
  clear z hb2 HC HS1
  go_wp2_with fail
  · have hk3 : k - 2 = 0 ∧ cap - 2 = 0 := by omega
    refine bodyPost_ret (v := .tuple #[.agg #[.int .i64 N, .slice (some ⟨w.heap.size + 1, 0, none⟩) (k - 2) 0], .bool ok]) (by simp [results, Tryz.results93, go_sem, c0, c1]) rfl ⟨Z2.out.set _ _, _, _, _, rfl, by rw [List.length_drop, HK.out], by rintro a ⟨⟩; exact Nat.le_succ _, ?_⟩
    exact Or.inl (List.drop_eq_nil_of_le (by have := HK.out; omega))
  · refine bodyPost_ret (v := .tuple #[.agg #[.int .i64 N, .slice (some ⟨w.heap.size + 1, 2, none⟩) (k - 2) (cap - 2)], .bool ok]) (by simp [results, Tryz.results93, go_sem, c0, c1]) rfl ⟨Z2.out.set _ _, _, _, _, rfl, by rw [List.length_drop, HK.out], by rintro a ⟨⟩; exact Nat.le_succ _, ?_⟩
    by_cases h : 2 < PS.length
    · refine Or.inr ⟨w.heap.size + 1, 2, rfl, by simpa using HC2.out.1, fun j hj => ?_⟩
      rw [List.length_drop] at hj
      rw [setCell2_far _ _ _ _ _ _ _ _ (Nat.ne_of_lt (Nat.lt_succ_self _)), HC2.out.2 (2 + j) (by omega)]
      rw [List.getD, List.getD, List.getElem?_drop]
    · exact Or.inl (List.drop_eq_nil_of_le (by omega))
theorem SplP.use {w w' : World} {s : ByteArray} {N : Int} {ok : Bool} {ws : List ByteArray} {e : Ending} (h : SplP w N ok ws e w') (h1 : splitOk s = ok) (h2 : ok = true → N = lineN s ∧ ws = lineWs s) :
    Below w.heap.size w w' ∧ ∃ (n : Int) (p : Option Addr) (k cap : Nat), e = .returned (.tuple #[.agg #[.int .i64 n, .slice p k cap], .bool (splitOk s)]) ∧ (splitOk s = true → n = lineN s ∧ k = (lineWs s).length ∧ PFrom w.heap.size p ∧ StrsAt w' p (lineWs s)) := by
  obtain ⟨hb, p, k, cap, he, hk, hp, hs⟩ := h
  refine ⟨hb, N, p, k, cap, by rw [h1]; exact he, fun h => ?_⟩
  obtain ⟨h3, h4⟩ := h2 (h1 ▸ h)
  subst h4
  exact ⟨h3, hk, hp, hs⟩
theorem sSplit (s : ByteArray) (w : World) (hs : s.size ≤ 1000000) (he : Env w) :
    Calls Tryz.prog 93 #[.string s] w fun e w' => Below w.heap.size w w' ∧ ∃ (n : Int) (p : Option Addr) (k cap : Nat), e = .returned (.tuple #[.agg #[.int .i64 n, .slice p k cap], .bool (splitOk s)]) ∧ (splitOk s = true → n = lineN s ∧ k = (lineWs s).length ∧ PFrom w.heap.size p ∧ StrsAt w' p (lineWs s)) := by
  by_cases h4 : 4 ≤ s.size
  · have hlt : ¬ ((s.size : Int) < 4) := by omega
    have hbs : (bodyOf s).size ≤ 1000000 := by rw [bodyOf, ByteArray.size_extract]; omega
    have c1 := sWithout s (w.alloc (.cells #[.int .i64 0, .slice none 0 0] 39)) h4 (by unfold maxLen; omega)
    have c2 := sCutSp (bodyOf s) (w.alloc (.cells #[.int .i64 0, .slice none 0 0] 39)) hbs
    have c3 := sSplitP (trimmed s) (w.alloc (.cells #[.int .i64 0, .slice none 0 0] 39)) (by have := trimmed_size s; omega) (he.next (below_alloc1 _ _))
    cases hsp : hasSp s with
    | false =>
      have hr : splitOk s = false := by unfold splitOk; simp [hsp]
      unfold hasSp at hsp
      rw [hsp] at c2
      refine (split_nosp s (bodyOf s) (trimmed s) w hlt (Lib.hid c1) (Lib.hid c2)).mono ?_
      rintro e w' ⟨hb, rfl⟩
      exact ⟨hb, 0, none, 0, 0, by rw [hr], fun h => by rw [hr] at h; cases h⟩
    | true =>
      have hsp' := hsp
      unfold hasSp at hsp
      rw [hsp] at c2
      by_cases h2 : 2 ≤ (partsOf (trimmed s)).length
      · refine (split_many s (bodyOf s) (trimmed s) (partsOf (trimmed s)) w hlt (Lib.hid h2) (Lib.hid (Nat.le_trans (partN_size s 0) hs)) (Lib.hid he) (Lib.hid c1) (Lib.hid c2) (Lib.hid c3)).mono ?_
        intro e w' h
        refine h.use (by unfold splitOk partN; simp [h4, hsp', h2]) fun _ => ⟨?_, ?_⟩
        · simp only [lineN, partN]
        · simp only [lineWs]
      · have hr : splitOk s = false := by unfold splitOk; simp [h2]
        refine (split_few s (bodyOf s) (trimmed s) (partsOf (trimmed s)) w hlt (Lib.hid (Nat.lt_of_not_le h2)) (Lib.hid c1) (Lib.hid c2) (Lib.hid c3)).mono ?_
        rintro e w' ⟨hb, rfl⟩
        exact ⟨hb, 0, none, 0, 0, by rw [hr], fun h => by rw [hr] at h; cases h⟩
  · have hr : splitOk s = false := by unfold splitOk; simp [h4]
    refine (split_short s w (by omega)).mono ?_
    rintro e w' ⟨hb, rfl⟩
    exact ⟨hb, 0, none, 0, 0, by rw [hr], fun h => by rw [hr] at h; cases h⟩
end Go.Proofs.YtmfhpddeclggfaaGreatDoor
