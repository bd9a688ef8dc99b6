import Derived.Test.YtmfhpddeclggfaaGreatDoorRrd
import Derived.Test.YtmfhpddeclggfaaGreatDoorBackLaw
import Derived.WalkKit
import Derived.LoopTactic
import Derived.WalkSpells
import Derived.WalkLawsBesides
import Derived.Lib.Hide
import Derived.BigQuiet
import Derived.IntWalk
import Derived.Deep.DeepMust
import Derived.WalkSmall
import Derived.StillTailTactics
import Derived.Deep.RegionLaw
import Derived.Deep.QuietTactic
import Derived.Deep.Cut
import Derived.Deep.DeepCutAuto
import Derived.Deep.LoopGhost
import Derived.Laws.AppendOwn
namespace Go.Proofs.YtmfhpddeclggfaaGreatDoor
open Go.RowKit
/-! The law of writing. -/
set_option maxRecDepth 100000 in
set_option maxHeartbeats 4000000 in
theorem wrt_big (s : ByteArray) (m : Int) (q : Option Addr) (c : Nat) (ws : List ByteArray) (w : World) (he : Env w) (hl : ws.length ≤ maxLen) (hz : ∀ j, (ws.getD j ByteArray.empty).size ≤ maxLen) (hp : StrsAt w q ws)
    (h : 4000 < wrap64 (sumL ws) ∨ 100 < ws.length ∨ 4000 < s.size) :
    Calls Tryz.prog 4 #[.agg #[.int .i64 m, .slice q ws.length c], .string s] w fun e w' => e = .returned (.bool true) ∧ Below w.heap.size w w' := by
  have L0 := Lib.hid (LB.mk0 w m q ws.length c)
  have SZ := Lib.hid (size_any q c ws (w.alloc (.cells #[.int .i64 m, .slice q ws.length c] 39)) hl hz (hp.below (below_alloc1 _ _)))
  have SN := Lib.hid (sanity_any (w.alloc (.cells #[.int .i64 m, .slice q ws.length c] 39)) (he.next (below_alloc1 _ _)))
  obtain ⟨N, hN⟩ : ∃ N, ws.length = N := ⟨_, rfl⟩
  obtain ⟨t, ht⟩ : ∃ t, wrap64 (sumL ws) = t := ⟨_, rfl⟩
  rw [hN] at L0 SZ SN h hl ⊢
  rw [ht] at SZ h
  unfold maxLen at hl
  clear he hz hp hN ht
  by_cases h2 : 4000 < t
  · clear h
    go_enter Tryz.func4, Tryz.ntmps4
    go_wp2_with fail
    refine SZ.out.mono ?_
    rintro e w1 ⟨rfl, rfl⟩
    go_wp2_with fail
    refine SN.out.mono ?_
    rintro e w1 ⟨rfl, hb⟩
    have B := Lib.hid (L0.out.next hb).bel
    clear hb
    go_wp2_with fail
    go_ret
    exact ⟨rfl, B.out⟩
  · by_cases h3 : 100 < (N : Int)
    · clear h
      go_enter Tryz.func4, Tryz.ntmps4
      go_wp2_with fail
      refine SZ.out.mono ?_
      rintro e w1 ⟨rfl, rfl⟩
      go_wp2_with fail
      refine SN.out.mono ?_
      rintro e w1 ⟨rfl, hb⟩
      have B := Lib.hid (L0.out.next hb).bel
      clear hb
      go_wp2_with fail
      go_ret
      exact ⟨rfl, B.out⟩
    · have h4 : 4000 < (s.size : Int) := by omega
      clear h
      go_enter Tryz.func4, Tryz.ntmps4
      go_wp2_with fail
      refine SZ.out.mono ?_
      rintro e w1 ⟨rfl, rfl⟩
      go_wp2_with fail
      refine SN.out.mono ?_
      rintro e w1 ⟨rfl, hb⟩
      have B := Lib.hid (L0.out.next hb).bel
      clear hb
      go_wp2_with fail
      go_ret
      exact ⟨rfl, B.out⟩
theorem wr_pair3 (n : Int) (ws : List ByteArray) : ∃ x e, Hid (wrRes n ws = .tuple #[.string x, .int .i64 e]) ∧ Hid (wrAgg n ws = .agg #[.string x, .int .i64 e]) := by
  unfold Hid wrRes wrAgg
  by_cases h : lineErr n ws = 0
  · rw [if_pos h, if_pos h]; exact ⟨_, _, rfl, rfl⟩
  · rw [if_neg h, if_neg h]; exact ⟨_, _, rfl, rfl⟩
/-- What is read, by both. -/
theorem rd_both (s : ByteArray) (hs : s.size ≤ 1000000) : ∃ (n : Int) (vs : List ByteArray) (er : Int), Hid (vs.length ≤ 40) ∧
    Hid (∀ W, Env W → Calls Tryz.prog 33 #[.string s] W fun e w' => ∃ p c, e = .returned (.tuple #[.agg #[.int .i64 n, .slice p vs.length c], .int .i64 er]) ∧ Below W.heap.size W w' ∧ StrsAt w' p vs) ∧
    Hid (∀ W, Calls Tryz.prog 34 #[.string s] W fun e w' => ∃ p c, e = .returned (.agg #[.int .i64 n, .slice p vs.length c, .int .i64 er]) ∧ Below W.heap.size W w' ∧ StrsAt w' p vs) := by
  have hok : readErr s = 0 → (lineWs s).length ≤ 40 := fun h => (lineErr_ok (read_ok h).1).2.2.1
  have A : ∀ W, Env W → Calls Tryz.prog 33 #[.string s] W (RdP W (lineN s) (lineWs s) (readErr s)) := fun W he => sRead s W hs he
  have B : ∀ W, Calls Tryz.prog 34 #[.string s] W fun e w' => Below W.heap.size W w' ∧ ∃ (n : Int) (ws : List ByteArray) (q : Option Addr) (c : Nat), e = .returned (.agg #[.int .i64 n, .slice q ws.length c, .int .i64 (readErr s)]) ∧ StrsAt w' q ws ∧ (readErr s = 0 → n = lineN s ∧ ws = lineWs s) ∧ (readErr s ≠ 0 → n = 0 ∧ ws = []) ∧ PFrom W.heap.size q := fun W => rRead s W hs
  generalize readErr s = er at hok A B
  generalize lineN s = N0 at A B
  generalize lineWs s = V0 at hok A B
  by_cases h : er = 0
  · subst h
    refine ⟨N0, V0, 0, hok rfl, fun W he => ?_, fun W => ?_⟩
    · refine (A W he).mono ?_
      rintro e w' ⟨hb, ⟨h0, -⟩ | ⟨-, p, c, rfl, -, hst⟩⟩
      · exact absurd rfl h0
      · exact ⟨p, c, rfl, hb, hst⟩
    · refine (B W).mono ?_
      rintro e w' ⟨hb, n, ws, q, c, rfl, hst, h1, -⟩
      obtain ⟨rfl, rfl⟩ := h1 rfl
      exact ⟨q, c, rfl, hb, hst⟩
  · refine ⟨0, [], er, Nat.zero_le _, fun W he => ?_, fun W => ?_⟩
    · refine (A W he).mono ?_
      rintro e w' ⟨hb, ⟨-, rfl⟩ | ⟨h0, -⟩⟩
      · exact ⟨none, 0, rfl, hb, .inl rfl⟩
      · exact absurd h0 h
    · refine (B W).mono ?_
      rintro e w' ⟨hb, n, ws, q, c, rfl, hst, -, h1, -⟩
      obtain ⟨rfl, rfl⟩ := h1 h
      exact ⟨q, c, rfl, hb, hst⟩
set_option maxRecDepth 100000 in
set_option maxHeartbeats 8000000 in
theorem wrt_small (s : ByteArray) (m : Int) (q : Option Addr) (c : Nat) (ws : List ByteArray) (w : World) (he : Env w) (hl : ws.length ≤ maxLen) (hz : ∀ j, (ws.getD j ByteArray.empty).size ≤ maxLen) (hp : StrsAt w q ws)
    (h2 : ¬ 4000 < wrap64 (sumL ws)) (h3 : ¬ 100 < ws.length) (h4 : ¬ 4000 < s.size) :
    Calls Tryz.prog 4 #[.agg #[.int .i64 m, .slice q ws.length c], .string s] w fun e w' => e = .returned (.bool true) ∧ Below w.heap.size w w' := by
  have L0 := Lib.hid (LB.mk0 w m q ws.length c)
  have HE := Lib.hid he
  have SZ := Lib.hid (size_any q c ws (w.alloc (.cells #[.int .i64 m, .slice q ws.length c] 39)) hl hz (hp.below (below_alloc1 _ _)))
  obtain ⟨x, ex, P1, P2⟩ := wr_pair3 m ws
  obtain ⟨n, vs, er, HVL, RD1, RD2⟩ := rd_both s (by omega)
  have WR1 : Hid (∀ W, StrsAt W q ws → Env W → Calls Tryz.prog 31 #[.agg #[.int .i64 m, .slice q ws.length c]] W fun e w' => e = .returned (.tuple #[.string x, .int .i64 ex]) ∧ Below W.heap.size W w') := fun W h5 h6 => by
    have := sWrite m q c ws W hl hz h5 h6
    rwa [P1.out] at this
  have WR2 : Hid (∀ W, StrsAt W q ws → Calls Tryz.prog 32 #[.agg #[.int .i64 m, .slice q ws.length c]] W fun e w' => e = .returned (.agg #[.string x, .int .i64 ex]) ∧ Below W.heap.size W w') := fun W h5 => by
    have := rWrite m q c ws W hl hz h5
    rwa [P2.out] at this
  have HP := Lib.hid hp
  obtain ⟨N, hN⟩ : ∃ N, ws.length = N := ⟨_, rfl⟩
  obtain ⟨M, hM⟩ : ∃ M, Hid (vs.length = M) := ⟨_, rfl⟩
  obtain ⟨t, ht⟩ : ∃ t, wrap64 (sumL ws) = t := ⟨_, rfl⟩
  rw [hN] at L0 SZ WR1 WR2 h3 ⊢
  rw [ht] at SZ h2
  rw [hM.out] at RD1 RD2
  have hN3 : ¬ 100 < (N : Int) := by omega
  have hs3 : ¬ 4000 < (s.size : Int) := by omega
  have HSS : Hid (s.size ≤ maxLen) := by unfold Hid maxLen; omega
  clear he hz hp ht hl hN P1 P2 h3 h4
  go_enter Tryz.func4, Tryz.ntmps4
  go_wp2_with fail
  refine SZ.out.mono ?_
  rintro e w1 ⟨rfl, rfl⟩
  have c0 := L0.out.c0
  have c1 := L0.out.c1
  clear SZ
  go_wp2_with fail
  refine (WR1.out _ (HP.out.below L0.out.bel) (HE.out.next L0.out.bel)).mono ?_
  rintro e w1 ⟨rfl, hb⟩
  have L1 := Lib.hid (L0.out.next hb)
  have c0 := L1.out.c0
  have c1 := L1.out.c1
  clear hb L0 WR1
  go_wp2_with fail
  refine (WR2.out _ (HP.out.below L1.out.bel)).mono ?_
  rintro e w2 ⟨rfl, hb⟩
  have B2 : Hid (Below w.heap.size w (w2.alloc (.cells #[.string x, .int .i64 ex] 32))) := (L1.out.next hb).bel.alloc (Nat.le_of_lt (L1.out.next hb).lt) _
  have A2 := Lib.hid (K2.new w2 (.string x) (.int .i64 ex) 32)
  clear hb L1 WR2 c0 c1
  go_wp2_with fail
  refine (RD1.out _ (HE.out.next B2.out)).mono ?_
  rintro e w3 ⟨p3, c3, rfl, hb, hst⟩
  have B3 : Hid (Below w.heap.size w (w3.alloc (.cells #[.int .i64 n, .slice p3 M c3] 39))) := (B2.out.trans (hb.mono B2.out.size)).alloc (by have := B2.out.size; have := hb.size; omega) _
  have A3 := Lib.hid ((A2.out.keep hb).keep (below_alloc1 w3 (.cells #[.int .i64 n, .slice p3 M c3] 39)))
  have D3 := Lib.hid (K2.new w3 (.int .i64 n) (.slice p3 M c3) 39)
  have S3 := Lib.hid (hst.below (below_alloc1 w3 (.cells #[.int .i64 n, .slice p3 M c3] 39)))
  clear hb RD1 B2 A2 hst
  go_wp2_with fail
  refine (RD2.out _).mono ?_
  rintro e w4 ⟨p4, c4, rfl, hb, hst⟩
  have B4 : Hid (Below w.heap.size w (w4.alloc (.cells #[.int .i64 n, .slice p4 M c4, .int .i64 er] 46))) := (B3.out.trans (hb.mono B3.out.size)).alloc (by have := B3.out.size; have := hb.size; omega) _
  have A4 := Lib.hid ((A3.out.keep hb).keep (below_alloc1 w4 (.cells #[.int .i64 n, .slice p4 M c4, .int .i64 er] 46)))
  have D4 := Lib.hid ((D3.out.keep hb).keep (below_alloc1 w4 (.cells #[.int .i64 n, .slice p4 M c4, .int .i64 er] 46)))
  have S4 := Lib.hid ((S3.out.below hb).below (below_alloc1 w4 (.cells #[.int .i64 n, .slice p4 M c4, .int .i64 er] 46)))
  have S5 := Lib.hid (hst.below (below_alloc1 w4 (.cells #[.int .i64 n, .slice p4 M c4, .int .i64 er] 46)))
  have e0 := nw_at w4 #[.int .i64 n, .slice p4 M c4, .int .i64 er] 46 0 _ rfl
  have e1 := nw_at w4 #[.int .i64 n, .slice p4 M c4, .int .i64 er] 46 1 _ rfl
  have e2 := nw_at w4 #[.int .i64 n, .slice p4 M c4, .int .i64 er] 46 2 _ rfl
  have hlt4 : w4.heap.size < (w4.alloc (.cells #[.int .i64 n, .slice p4 M c4, .int .i64 er] 46)).heap.size := by simp
  have E0 := Lib.hid e0
  have E1 := Lib.hid e1
  have E2 := Lib.hid e2
  have HLT := Lib.hid hlt4
  have SN := Lib.hid (sanity_any _ (HE.out.next B4.out))
  clear hb RD2 B3 A3 D3 S3 hst e0 e1 e2 hlt4
  go_wp2_with fail
  refine SN.out.mono ?_
  rintro e w5 ⟨rfl, hb⟩
  have B5 : Hid (Below w.heap.size w w5) := B4.out.trans (hb.mono B4.out.size)
  have A5 := A4.out.keep hb
  have D5 := D4.out.keep hb
  have S6 := Lib.hid (S4.out.below hb)
  have S7 := Lib.hid (S5.out.below hb)
  have y0 := A5.2.1
  have y1 := A5.2.2
  have y2 := D5.2.1
  have y3 := D5.2.2
  have y4 := (hb.cell (p := ⟨w4.heap.size, 0, none⟩) HLT.out).trans E0.out
  have y5 := (hb.cell (p := ⟨w4.heap.size, 1, none⟩) HLT.out).trans E1.out
  have y6 := (hb.cell (p := ⟨w4.heap.size, 2, none⟩) HLT.out).trans E2.out
  have CK1 := Lib.hid (sCheck s w5 HSS.out)
  have CK2 := Lib.hid (rCheck s w5 HSS.out)
  have SM := rSame n n p3 p4 c3 c4 vs vs w5 (by have := HVL.out; unfold maxLen; omega) S6.out S7.out
  rw [sameB_self, hM.out] at SM
  have SMH := Lib.hid SM
  obtain ⟨k, hk⟩ : ∃ k : Int, (chk s.data.toList : Int) = k := ⟨_, rfl⟩
  rw [hk] at CK1 CK2
  clear hb SN A4 D4 S4 S5 A5 D5 E0 E1 E2 SM hk B4
  go_wp2_with fail
  refine CK1.out.mono ?_
  rintro e w' ⟨rfl, rfl⟩
  clear CK1
  go_wp2_with fail
  refine CK2.out.mono ?_
  rintro e w' ⟨rfl, rfl⟩
  clear CK2
  go_wp2_with fail
  refine SMH.out.mono ?_
  rintro e w6 ⟨rfl, hb⟩
  have B6 : Hid (Below w.heap.size w w6) := B5.out.trans (hb.mono B5.out.size)
  clear hb SMH
  go_wp2_with fail
  go_ret
  exact ⟨rfl, B6.out⟩
theorem sheetWrites_law (m : Int) (q : Option Addr) (c : Nat) (ws : List ByteArray) (s : ByteArray) (w : World) (he : Env w) (_hm : -9223372036854775808 ≤ m ∧ m ≤ 9223372036854775807) (hl : ws.length ≤ maxLen) (hz : ∀ j, (ws.getD j ByteArray.empty).size ≤ maxLen) (hp : StrsAt w q ws) (_hs : s.size ≤ maxLen) :
    Calls Tryz.prog 4 #[.agg #[.int .i64 m, .slice q ws.length c], .string s] w fun e w' => e = .returned (.bool true) ∧ Below w.heap.size w w' := by
  by_cases h : 4000 < wrap64 (sumL ws) ∨ 100 < ws.length ∨ 4000 < s.size
  · exact wrt_big s m q c ws w he hl hz hp h
  · simp only [not_or] at h
    exact wrt_small s m q c ws w he hl hz hp h.1 h.2.1 h.2.2
end Go.Proofs.YtmfhpddeclggfaaGreatDoor
