import Derived.Test.YtmfhpddeclggfaaGreatDoorSplitB
import Derived.WalkKit
import Derived.LoopTactic
import Derived.WalkSpells
import Derived.WalkLawsBesides
import Derived.Lib.Hide
import Derived.BigQuiet
import Derived.IntWalk
import Derived.Deep.DeepMust
import Derived.WalkSmall
import Derived.StillTailTactics
import Derived.Lib.SlBytesConst
import Derived.Deep.RegionLaw
import Derived.Deep.QuietTactic
namespace Go.Proofs.YtmfhpddeclggfaaGreatDoor
open Go.RowKit
/-- What a line of text is written again as. -/
def again (s : ByteArray) : ByteArray := bs (lineT (lineN s) (lineWs s))
def headOf (s : ByteArray) : ByteArray := s.extract 0 (s.size - 4)
def sameHead (s : ByteArray) : Bool := (headOf (again s)).toList == (headOf s).toList
def readErr (s : ByteArray) : Int :=
  if splitOk s = false then 7 else if lineErr (lineN s) (lineWs s) ≠ 0 then 7 else if sameHead s = false then 7 else if ((again s).toList == s.toList) = true then 0 else 11
/-- What reading a text leaves: the error, and the line if there is none. -/
def RdP (w : World) (N : Int) (ws : List ByteArray) (err : Int) (e : Ending) (w' : World) : Prop :=
  Below w.heap.size w w' ∧ ((err ≠ 0 ∧ e = .returned (.tuple #[.agg #[.int .i64 0, .slice none 0 0], .int .i64 err])) ∨ (err = 0 ∧ ∃ (p : Option Addr) (cap : Nat), e = .returned (.tuple #[.agg #[.int .i64 N, .slice p ws.length cap], .int .i64 0]) ∧ PFrom w.heap.size p ∧ StrsAt w' p ws))
set_option maxRecDepth 100000 in
set_option maxHeartbeats 1000000 in
theorem read_bad (s : ByteArray) (w : World) (N : Int) (ws : List ByteArray)
    (CS : Hid (Calls Tryz.prog 93 #[.string s] (w.alloc (.cells #[.int .i64 0, .slice none 0 0] 39)) fun e w' => Below (w.alloc (.cells #[.int .i64 0, .slice none 0 0] 39)).heap.size (w.alloc (.cells #[.int .i64 0, .slice none 0 0] 39)) w' ∧ ∃ (n : Int) (p : Option Addr) (k cap : Nat), e = .returned (.tuple #[.agg #[.int .i64 n, .slice p k cap], .bool false]))) :
    Calls Tryz.prog 33 #[.string s] w (RdP w N ws 7) := by
  go_enter Tryz.func33, Tryz.ntmps33
  go_wp2_with fail
  refine CS.out.mono ?_
  rintro e w1 ⟨hb, n, p, k, cap, rfl⟩
  have z := ((ZC.mk0 w).next hb).next (below_alloc1 w1 (.cells #[.int .i64 n, .slice p k cap] 39))
  have Z := Lib.hid z
  have c0 := z.c0
  have c1 := z.c1
  have f0 := z.f0
  have f1 := z.f1
  clear z hb
  go_wp2_with fail
  refine bodyPost_ret (v := .tuple #[.agg #[.int .i64 0, .slice none 0 0], .int .i64 7]) (by simp [results, Tryz.results33, go_sem, c0, c1]) rfl ⟨Z.out.set _ _, Or.inl ⟨by decide, rfl⟩⟩
set_option maxRecDepth 100000 in
set_option maxHeartbeats 1000000 in
theorem read_nowrite (s : ByteArray) (w : World) (N : Int) (ws : List ByteArray) (err : Int) (h0 : (err != 0) = true) (he : Hid (Env w))
    (CS : Hid (Calls Tryz.prog 93 #[.string s] (w.alloc (.cells #[.int .i64 0, .slice none 0 0] 39)) fun e w' => Below (w.alloc (.cells #[.int .i64 0, .slice none 0 0] 39)).heap.size (w.alloc (.cells #[.int .i64 0, .slice none 0 0] 39)) w' ∧ ∃ (p : Option Addr) (cap : Nat), e = .returned (.tuple #[.agg #[.int .i64 N, .slice p ws.length cap], .bool true]) ∧ StrsAt w' p ws))
    (CW : Hid (∀ (p : Option Addr) (cap : Nat) (W : World), StrsAt W p ws → Env W → Calls Tryz.prog 31 #[.agg #[.int .i64 N, .slice p ws.length cap]] W fun e w' => e = .returned (.tuple #[.string ⟨#[]⟩, .int .i64 err]) ∧ Below W.heap.size W w')) :
    Calls Tryz.prog 33 #[.string s] w (RdP w N ws 7) := by
  go_enter Tryz.func33, Tryz.ntmps33
  go_wp2_with fail
  refine CS.out.mono ?_
  rintro e w1 ⟨hb, p, cap, rfl, hst⟩
  have z := ((ZC.mk0 w).next hb).next (below_alloc1 w1 (.cells #[.int .i64 N, .slice p ws.length cap] 39))
  have Z := Lib.hid z
  have CW1 := Lib.hid (CW.out p cap _ (hst.below (below_alloc1 w1 (.cells #[.int .i64 N, .slice p ws.length cap] 39))) (he.out.next z.bel))
  clear z hb hst
  go_wp2_with fail
  refine CW1.out.mono ?_
  rintro e w3 ⟨rfl, hb3⟩
  have z := Z.out.next hb3
  have Z3 := Lib.hid z
  have c0 := z.c0
  have c1 := z.c1
  have f0 := z.f0
  have f1 := z.f1
  clear z hb3
  go_wp2_with fail
  refine bodyPost_ret (v := .tuple #[.agg #[.int .i64 0, .slice none 0 0], .int .i64 7]) (by simp [results, Tryz.results33, go_sem, c0, c1]) rfl ⟨Z3.out.set _ _, Or.inl ⟨by decide, rfl⟩⟩
set_option maxRecDepth 100000 in
set_option maxHeartbeats 1000000 in
theorem read_wrote (s T Th Sh : ByteArray) (w : World) (N : Int) (ws : List ByteArray) (he : Hid (Env w)) (sh same : Bool) (hsh : (Th.toList == Sh.toList) = sh) (hsame : (T.toList == s.toList) = same)
    (CS : Hid (Calls Tryz.prog 93 #[.string s] (w.alloc (.cells #[.int .i64 0, .slice none 0 0] 39)) fun e w' => Below (w.alloc (.cells #[.int .i64 0, .slice none 0 0] 39)).heap.size (w.alloc (.cells #[.int .i64 0, .slice none 0 0] 39)) w' ∧ ∃ (p : Option Addr) (cap : Nat), e = .returned (.tuple #[.agg #[.int .i64 N, .slice p ws.length cap], .bool true]) ∧ PFrom (w.heap.size + 1) p ∧ StrsAt w' p ws))
    (CW : Hid (∀ (p : Option Addr) (cap : Nat) (W : World), StrsAt W p ws → Env W → Calls Tryz.prog 31 #[.agg #[.int .i64 N, .slice p ws.length cap]] W fun e w' => e = .returned (.tuple #[.string T, .int .i64 0]) ∧ Below W.heap.size W w'))
    (CT : Hid (∀ W : World, Calls Tryz.prog 94 #[.string T] W fun e w' => e = .returned (.string Th) ∧ W = w'))
    (CH : Hid (∀ W : World, Calls Tryz.prog 94 #[.string s] W fun e w' => e = .returned (.string Sh) ∧ W = w')) :
    Calls Tryz.prog 33 #[.string s] w (RdP w N ws (if sh = false then 7 else if same = true then 0 else 11)) := by
  obtain ⟨err, hErr⟩ : ∃ err : Int, (if sh = false then 7 else if same = true then 0 else 11) = err := ⟨_, rfl⟩
  rw [hErr]
  have HErr := Lib.hid hErr
  have HSH := Lib.hid hsh
  have HSA := Lib.hid hsame
  clear hsh hsame hErr
  go_enter Tryz.func33, Tryz.ntmps33
  go_wp2_with fail
  refine CS.out.mono ?_
  rintro e w1 ⟨hb, p, cap, rfl, hpf, hst⟩
  have HPF := Lib.hid hpf
  have z := ((ZC.mk0 w).next hb).next (below_alloc1 w1 (.cells #[.int .i64 N, .slice p ws.length cap] 39))
  have Z := Lib.hid z
  have hst1 := hst.below (below_alloc1 w1 (.cells #[.int .i64 N, .slice p ws.length cap] 39))
  have ST := Lib.hid hst1
  have CW1 := Lib.hid (CW.out p cap _ hst1 (he.out.next z.bel))
  have hlt : w.heap.size < w1.heap.size := by have := hb.size; rw [World.size_alloc] at this; omega
  have HLT := Lib.hid hlt
  clear z hb hst hst1 hlt hpf
  go_wp2_with fail
  refine CW1.out.mono ?_
  rintro e w3 ⟨rfl, hb3⟩
  have z := Z.out.next hb3
  have Z3 := Lib.hid z
  have ST3 := Lib.hid (ST.out.below hb3)
  have c0 := z.c0
  have c1 := z.c1
  have f0 := z.f0
  have f1 := z.f1
  have d0 : w3.cell? ⟨w1.heap.size, 0, none⟩ = some (.int .i64 N) := by rw [hb3.cell (p := ⟨w1.heap.size, 0, none⟩) (by show w1.heap.size < _; simp)]; simp
  have d1 : w3.cell? ⟨w1.heap.size, 1, none⟩ = some (.slice p ws.length cap) := by rw [hb3.cell (p := ⟨w1.heap.size, 1, none⟩) (by show w1.heap.size < _; simp)]; simp
  clear z hb3
  go_wp2_with fail
  refine (CT.out _).mono ?_
  rintro e w' ⟨rfl, rfl⟩
  go_wp2_with fail
  refine (CH.out _).mono ?_
  rintro e w' ⟨rfl, rfl⟩
  have hsh := HSH.out
  have hsame := HSA.out
  cases sh with
  | false =>
    obtain rfl : err = 7 := by rw [← HErr.out]; rfl
    go_wp2_with fail
    refine bodyPost_ret (v := .tuple #[.agg #[.int .i64 0, .slice none 0 0], .int .i64 7]) (by simp [results, Tryz.results33, go_sem, c0, c1]) rfl ⟨Z3.out.set _ _, Or.inl ⟨by decide, rfl⟩⟩
  | true =>
    cases same with
    | true =>
      obtain rfl : err = 0 := by rw [← HErr.out]; rfl
      go_wp2_with fail
      refine bodyPost_ret (v := .tuple #[.agg #[.int .i64 N, .slice p ws.length cap], .int .i64 0]) (by simp [results, Tryz.results33, go_sem, c0, c1]) rfl ⟨Z3.out.set _ _, Or.inr ⟨rfl, p, cap, rfl, fun a ha => Nat.le_of_succ_le (HPF.out a ha), ?_⟩⟩
      rcases ST3.out with h | ⟨b, o, h1, h2, h3⟩
      · exact Or.inl h
      · have hbb := HPF.out _ h1
        refine Or.inr ⟨b, o, h1, by simpa using h2, fun j hj => ?_⟩
        rw [setCell2_far _ _ _ _ _ _ _ _ (Nat.ne_of_lt hbb)]
        exact h3 j hj
    | false =>
      obtain rfl : err = 11 := by rw [← HErr.out]; rfl
      go_wp2_with fail
      refine bodyPost_ret (v := .tuple #[.agg #[.int .i64 0, .slice none 0 0], .int .i64 11]) (by simp [results, Tryz.results33, go_sem, c0, c1]) rfl ⟨Z3.out.set _ _, Or.inl ⟨by decide, rfl⟩⟩
theorem lineT_len4 (n : Int) (ws : List ByteArray) : 4 ≤ (bs (lineT n ws)).size := by
  rw [bs_size]
  unfold lineT
  have := four_len (chk (headL n ws)) (by have := chk_lt (headL n ws); omega)
  simp only [List.length_append]
  omega
theorem lineT_size {n : Int} {ws : List ByteArray} (h : lineErr n ws = 0) : (bs (lineT n ws)).size ≤ 6000 := by
  obtain ⟨h1, h2, h3, h4⟩ := lineErr_ok h
  have l1 := (itoa_len n (by omega) (by omega)).2
  have l2 := (itoa_len (ws.length : Int) (by omega) (by omega)).2
  have l3 := wordsL_len ws (wordsOk_size h4)
  have := four_len (chk (headL n ws)) (by have := chk_lt (headL n ws); omega)
  rw [bs_size]
  unfold lineT
  simp only [List.length_append, List.length_cons, List.length_nil, this]
  unfold headL
  simp only [List.length_append, List.length_cons, List.length_nil]
  omega
theorem lineWs_len (s : ByteArray) : (lineWs s).length ≤ 40 := by
  have h := Lib.splitB_length_le ⟨#[32]⟩ 0 (min 42 ((trimmed s).size + 1) - 1) (trimmed s)
  have h2 : (partsOf (trimmed s)).length ≤ min 42 ((trimmed s).size + 1) - 1 + 1 := h
  have h3 : (lineWs s).length = (partsOf (trimmed s)).length - 2 := List.length_drop
  omega
theorem lineWs_size (s : ByteArray) (j : Nat) : ((lineWs s).getD j ByteArray.empty).size ≤ s.size := by
  have h : (lineWs s).getD j ByteArray.empty = partN s (2 + j) := by
    unfold lineWs partN
    rw [List.getD, List.getD, List.getElem?_drop]
  rw [h]
  exact partN_size s _
theorem splitOk_four {s : ByteArray} (h : splitOk s = true) : 4 ≤ s.size := by
  unfold splitOk at h
  rw [Bool.and_eq_true] at h
  exact of_decide_eq_true h.1
/-- sheet.Read. -/
theorem sRead (s : ByteArray) (w : World) (hs : s.size ≤ 1000000) (he : Env w) : Calls Tryz.prog 33 #[.string s] w (RdP w (lineN s) (lineWs s) (readErr s)) := by
  have c := sSplit s (w.alloc (.cells #[.int .i64 0, .slice none 0 0] 39)) hs (he.next (below_alloc1 _ _))
  cases hok : splitOk s with
  | false =>
    have hr : readErr s = 7 := by unfold readErr; rw [if_pos hok]
    rw [hr]
    refine read_bad s w _ _ (Lib.hid (c.mono ?_))
    rintro e w' ⟨hb, n, p, k, cap, h, _⟩
    rw [hok] at h
    exact ⟨hb, n, p, k, cap, h⟩
  | true =>
    have hok' : ¬ splitOk s = false := by rw [hok]; decide
    have c' : Calls Tryz.prog 93 #[.string s] (w.alloc (.cells #[.int .i64 0, .slice none 0 0] 39)) fun e w' => Below (w.alloc (.cells #[.int .i64 0, .slice none 0 0] 39)).heap.size (w.alloc (.cells #[.int .i64 0, .slice none 0 0] 39)) w' ∧ ∃ (p : Option Addr) (cap : Nat), e = .returned (.tuple #[.agg #[.int .i64 (lineN s), .slice p (lineWs s).length cap], .bool true]) ∧ PFrom (w.heap.size + 1) p ∧ StrsAt w' p (lineWs s) := by
      refine c.mono ?_
      rintro e w' ⟨hb, n, p, k, cap, h, h2⟩
      obtain ⟨h3, h4, h5, h6⟩ := h2 hok
      rw [h3, h4, hok] at h
      rw [World.size_alloc] at h5
      exact ⟨hb, p, cap, h, h5, h6⟩
    have cw : ∀ (p : Option Addr) (cap : Nat) (W : World), StrsAt W p (lineWs s) → Env W → Calls Tryz.prog 31 #[.agg #[.int .i64 (lineN s), .slice p (lineWs s).length cap]] W fun e w' => e = .returned (wrRes (lineN s) (lineWs s)) ∧ Below W.heap.size W w' :=
      fun p cap W hp hE => sWrite (lineN s) p cap (lineWs s) W (by have := lineWs_len s; unfold maxLen; omega) (fun j => by have := lineWs_size s j; unfold maxLen; omega) hp hE
    by_cases h0 : lineErr (lineN s) (lineWs s) = 0
    · have hr : readErr s = (if sameHead s = false then 7 else if ((again s).toList == s.toList) = true then 0 else 11) := by
        unfold readErr
        rw [if_neg hok', if_neg (by rw [h0]; decide)]
      rw [hr]
      unfold wrRes at cw
      rw [if_pos h0] at cw
      have hT := lineT_len4 (lineN s) (lineWs s)
      have hT2 := lineT_size h0
      exact read_wrote s (again s) (headOf (again s)) (headOf s) w _ _ (Lib.hid he) (sameHead s) ((again s).toList == s.toList) rfl rfl (Lib.hid c') (Lib.hid cw)
        (Lib.hid fun W => sWithout (again s) W hT (by unfold maxLen; unfold again; omega)) (Lib.hid fun W => sWithout s W (splitOk_four hok) (by unfold maxLen; omega))
    · have hr : readErr s = 7 := by
        unfold readErr
        rw [if_neg hok', if_pos h0]
      rw [hr]
      unfold wrRes at cw
      rw [if_neg h0] at cw
      refine read_nowrite s w _ _ (lineErr (lineN s) (lineWs s)) (bne_iff_ne.2 h0) (Lib.hid he) (Lib.hid (c'.mono ?_)) (Lib.hid cw)
      rintro e w' ⟨hb, p, cap, h, _, h6⟩
      exact ⟨hb, p, cap, h, h6⟩
end Go.Proofs.YtmfhpddeclggfaaGreatDoor
