import Derived.Test.YtmfhpddeclggfaaGreatDoorSanityOf
import Derived.WalkKit
import Derived.LoopTactic
import Derived.WalkSpells
import Derived.WalkLawsBesides
import Derived.Lib.Hide
import Derived.BigQuiet
import Derived.IntWalk
import Derived.Deep.DeepMust
import Derived.WalkSmall
import Derived.StillTailTactics
import Derived.Lib.SlBytesConst
import Derived.Deep.RegionLaw
import Derived.Deep.QuietTactic
namespace Go.Proofs.YtmfhpddeclggfaaGreatDoor
open Go.RowKit
/-- Two cells that lie there. -/
def K2 (W : World) (k : Nat) (u v : Value) : Prop := k < W.heap.size ∧ W.cell? ⟨k, 0, none⟩ = some u ∧ W.cell? ⟨k, 1, none⟩ = some v
theorem K2.keep {W W' : World} {k : Nat} {u v : Value} (h : K2 W k u v) (hb : Below W.heap.size W W') : K2 W' k u v :=
  ⟨Nat.lt_of_lt_of_le h.1 hb.size, by rw [hb.cell (p := ⟨k, 0, none⟩) h.1]; exact h.2.1, by rw [hb.cell (p := ⟨k, 1, none⟩) h.1]; exact h.2.2⟩
theorem K2.new (W : World) (u v : Value) (e : TypeId) : K2 (W.alloc (.cells #[u, v] e)) W.heap.size u v :=
  ⟨by simp, new_at W _ e 0 u rfl, new_at W _ e 1 v rfl⟩
theorem rd_pair (l : List UInt8) : ∃ a e, Hid (rdRes l = .tuple #[.int .i64 a, .int .i64 e] ∧ rdNum l = .agg #[.int .i64 a, .int .i64 e]) := ⟨_, _, rfl, rfl⟩
theorem tx_pair (s : ByteArray) : ∃ x e, Hid (txRes s = .tuple #[.string x, .int .i64 e] ∧ wdRes (if 50 < s.size then none else some (txt s.data.toList)) 2 = .agg #[.string x, .int .i64 e]) := by
  unfold txRes Hid
  by_cases h : 50 < s.size
  · rw [if_pos h, if_pos h]; exact ⟨_, _, rfl, rfl⟩
  · rw [if_neg h, if_neg h]; exact ⟨_, _, rfl, rfl⟩
theorem rt_pair (o : Option (List UInt8)) : ∃ x e, Hid (rtRes o = .tuple #[.string x, .int .i64 e] ∧ wdRes o 7 = .agg #[.string x, .int .i64 e]) := by
  cases o <;> exact ⟨_, _, rfl, rfl⟩
set_option maxRecDepth 100000 in
set_option maxHeartbeats 1000000 in
theorem law_long (s : ByteArray) (n : Int) (w : World) (he : Env w) (hs : 300 < (s.size : Int)) (SC : Hid (∀ W : World, Env W → Calls Tryz.prog 19 #[] W fun e w' => e = .returned (.bool true) ∧ Below W.heap.size W w')) :
    Calls Tryz.prog 3 #[.string s, .int .i64 n] w fun e w' => e = .returned (.bool true) ∧ Below w.heap.size w w' := by
  have C := Lib.hid (SC.out w he)
  clear he SC
  go_enter Tryz.func3, Tryz.ntmps3
  go_wp2_with fail
  refine C.out.mono ?_
  rintro e w1 ⟨rfl, hb⟩
  have B := Lib.hid hb
  clear hb C
  go_wp2_with fail
  go_ret
  exact ⟨rfl, B.out⟩
set_option maxRecDepth 100000 in
set_option maxHeartbeats 1000000 in
theorem law_short (s : ByteArray) (n : Int) (w : World) (he : Env w) (hn : I64 n) (hs : (s.size : Int) ≤ 300) (SC : Hid (∀ W : World, Env W → Calls Tryz.prog 19 #[] W fun e w' => e = .returned (.bool true) ∧ Below W.heap.size W w')) :
    Calls Tryz.prog 3 #[.string s, .int .i64 n] w fun e w' => e = .returned (.bool true) ∧ Below w.heap.size w w' := by
  have HE := Lib.hid he
  have HN := Lib.hid hn
  have hs1 : s.size ≤ 300 := by omega
  have HS := Lib.hid hs1
  have C1 := sReadInt s w (by omega) he
  obtain ⟨a, ea, P1⟩ := rd_pair s.data.toList
  obtain ⟨x, ex, P2⟩ := tx_pair s
  obtain ⟨y, ey, P3⟩ := rt_pair (rdText s.data.toList)
  obtain ⟨wb, hwb⟩ : ∃ wb, Hid (wordL s.data.toList = wb) := ⟨_, rfl⟩
  obtain ⟨z, hz⟩ : ∃ z, Hid (bs (Lib.itoa n) = z) := ⟨_, rfl⟩
  rw [P1.out.1] at C1
  have D1 := Lib.hid C1
  clear C1 he hn hs1
  go_enter Tryz.func3, Tryz.ntmps3
  go_wp2_with fail
  refine D1.out.mono ?_
  rintro e w1 ⟨rfl, hb⟩
  have B1 := Lib.hid hb
  clear D1 hb
  go_wp2_with fail
  have C2 := rReadInt s w1 (by have := HS.out; unfold maxLen; omega)
  rw [P1.out.2] at C2
  refine C2.mono ?_
  rintro e w2 ⟨rfl, hb⟩
  have B2 : Hid (Below w.heap.size w w2) := B1.out.trans (hb.mono B1.out.size)
  clear C2 hb B1
  go_wp2_with fail
  have C3 := sText s (w2.alloc (.cells #[.int .i64 a, .int .i64 ea] 27))
  rw [P2.out.1] at C3
  refine C3.mono ?_
  rintro e w3 ⟨rfl, hb⟩
  have B3 : Hid (Below w.heap.size w w3) := (B2.out.trans ((below_alloc1 _ _).mono B2.out.size)).trans (hb.mono (by rw [World.size_alloc]; exact Nat.le_succ_of_le B2.out.size))
  have A3 := Lib.hid ((K2.new w2 (.int .i64 a) (.int .i64 ea) 27).keep hb)
  clear C3 hb B2
  go_wp2_with fail
  have C4 := rText s w3
  rw [P2.out.2] at C4
  refine C4.mono ?_
  rintro e w4 ⟨rfl, hb⟩
  have B4 : Hid (Below w.heap.size w w4) := B3.out.trans (hb.mono B3.out.size)
  have A4 := Lib.hid ((A3.out.keep hb).keep (below_alloc1 w4 (.cells #[.string x, .int .i64 ex] 32)))
  clear C4 hb B3 A3
  go_wp2_with fail
  have C5 := sReadTextAll s (w4.alloc (.cells #[.string x, .int .i64 ex] 32)) (by have := HS.out; omega)
  rw [P3.out.1] at C5
  refine C5.mono ?_
  rintro e w5 ⟨rfl, hb⟩
  have B5 : Hid (Below w.heap.size w w5) := (B4.out.trans ((below_alloc1 _ _).mono B4.out.size)).trans (hb.mono (by rw [World.size_alloc]; exact Nat.le_succ_of_le B4.out.size))
  have A5 := Lib.hid (A4.out.keep hb)
  have X5 := Lib.hid ((K2.new w4 (.string x) (.int .i64 ex) 32).keep hb)
  clear C5 hb B4 A4
  go_wp2_with fail
  have C6 := rReadTextAll s w5 (by have := HS.out; omega)
  rw [P3.out.2] at C6
  refine C6.mono ?_
  rintro e w6 ⟨rfl, hb⟩
  have B6 : Hid (Below w.heap.size w w6) := B5.out.trans (hb.mono B5.out.size)
  have A6 := Lib.hid ((A5.out.keep hb).keep (below_alloc1 w6 (.cells #[.string y, .int .i64 ey] 32)))
  have X6 := Lib.hid ((X5.out.keep hb).keep (below_alloc1 w6 (.cells #[.string y, .int .i64 ey] 32)))
  clear C6 hb B5 A5 X5
  go_wp2_with fail
  have C7 := SC.out (w6.alloc (.cells #[.string y, .int .i64 ey] 32)) ((HE.out.next B6.out).next (below_alloc1 _ _))
  refine C7.mono ?_
  rintro e w7 ⟨rfl, hb⟩
  have B7 : Hid (Below w.heap.size w w7) := (B6.out.trans ((below_alloc1 _ _).mono B6.out.size)).trans (hb.mono (by rw [World.size_alloc]; exact Nat.le_succ_of_le B6.out.size))
  have A7 := Lib.hid (A6.out.keep hb)
  have X7 := Lib.hid (X6.out.keep hb)
  have Y7 := Lib.hid ((K2.new w6 (.string y) (.int .i64 ey) 32).keep hb)
  clear C7 hb B6 A6 X6
  go_wp2_with fail
  have C8 := Word_any s w7 (by have := HS.out; unfold maxLen; omega)
  rw [hwb.out] at C8
  refine C8.mono ?_
  rintro e w' ⟨rfl, rfl⟩
  clear C8
  go_wp2_with fail
  have C9 := rWord s w7 (by have := HS.out; unfold maxLen; omega)
  rw [hwb.out] at C9
  refine C9.mono ?_
  rintro e w' ⟨rfl, rfl⟩
  clear C9
  go_wp2_with fail
  have C10 := sInt n w7 HN.out (HE.out.next B7.out)
  rw [hz.out] at C10
  refine C10.mono ?_
  rintro e w8 ⟨rfl, hb⟩
  have B8 : Hid (Below w.heap.size w w8) := B7.out.trans (hb.mono B7.out.size)
  have A8 := A7.out.keep hb
  have X8 := X7.out.keep hb
  have Y8 := Y7.out.keep hb
  obtain ⟨_, p1, p2⟩ := A8
  obtain ⟨_, p3, p4⟩ := X8
  obtain ⟨_, p5, p6⟩ := Y8
  clear C10 hb B7 A7 X7 Y7
  go_wp2_with fail
  have C11 := rInt n w8 HN.out
  rw [hz.out] at C11
  refine C11.mono ?_
  rintro e w' ⟨rfl, rfl⟩
  clear C11
  go_wp2_with fail
  go_ret
  exact ⟨rfl, B8.out⟩
/-- The law of words answers true, if what is tried at its head does. -/
theorem sheetWords_of (s : ByteArray) (n : Int) (w : World) (he : Env w) (hn : I64 n) (SC : ∀ W : World, Env W → Calls Tryz.prog 19 #[] W fun e w' => e = .returned (.bool true) ∧ Below W.heap.size W w') :
    Calls Tryz.prog 3 #[.string s, .int .i64 n] w fun e w' => e = .returned (.bool true) ∧ Below w.heap.size w w' := by
  by_cases h : 300 < (s.size : Int)
  · exact law_long s n w he h (Lib.hid SC)
  · exact law_short s n w he hn (by omega) (Lib.hid SC)
end Go.Proofs.YtmfhpddeclggfaaGreatDoor
