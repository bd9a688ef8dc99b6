import Derived.Test.YtmfhpddeclggfaaGreatDoorKf
import Derived.WalkKit
import Derived.LoopTactic
import Derived.WalkSpells
import Derived.WalkLawsBesides
import Derived.Lib.Hide
import Derived.BigQuiet
import Derived.IntWalk
import Derived.Deep.DeepMust
import Derived.WalkSmall
import Derived.StillTailTactics
import Derived.Lib.SlBytesConst
import Derived.Deep.RegionLaw
import Derived.Deep.QuietTactic
import Derived.Test.YtmfhpddeclggfaaGreatDoorKb
import Derived.Test.YtmfhpddeclggfaaGreatDoorKe
import Derived.Test.YtmfhpddeclggfaaGreatDoorKd
namespace Go.Proofs.YtmfhpddeclggfaaGreatDoor
open Go.RowKit
/-- Two cells that lie there. -/
def K2 (W : World) (k : Nat) (u v : Value) : Prop := k < W.heap.size ∧ W.cell? ⟨k, 0, none⟩ = some u ∧ W.cell? ⟨k, 1, none⟩ = some v
theorem K2.keep {W W' : World} {k : Nat} {u v : Value} (h : K2 W k u v) (hb : Below W.heap.size W W') : K2 W' k u v :=
  ⟨Nat.lt_of_lt_of_le h.1 hb.size, by rw [hb.cell (p := ⟨k, 0, none⟩) h.1]; exact h.2.1, by rw [hb.cell (p := ⟨k, 1, none⟩) h.1]; exact h.2.2⟩
theorem K2.new (W : World) (u v : Value) (e : TypeId) : K2 (W.alloc (.cells #[u, v] e)) W.heap.size u v :=
  ⟨by simp, new_at W _ e 0 u rfl, new_at W _ e 1 v rfl⟩
theorem rd_pair (l : List UInt8) : ∃ a e, Hid (rdRes l = .tuple #[.int .i64 a, .int .i64 e] ∧ rdNum l = .agg #[.int .i64 a, .int .i64 e]) := ⟨_, _, rfl, rfl⟩
theorem tx_pair (s : ByteArray) : ∃ x e, Hid (txRes s = .tuple #[.string x, .int .i64 e] ∧ wdRes (if 50 < s.size then none else some (txt s.data.toList)) 2 = .agg #[.string x, .int .i64 e]) := by
  unfold txRes Hid
  by_cases h : 50 < s.size
  · rw [if_pos h, if_pos h]; exact ⟨_, _, rfl, rfl⟩
  · rw [if_neg h, if_neg h]; exact ⟨_, _, rfl, rfl⟩
theorem rt_pair (o : Option (List UInt8)) : ∃ x e, Hid (rtRes o = .tuple #[.string x, .int .i64 e] ∧ wdRes o 7 = .agg #[.string x, .int .i64 e]) := by
  cases o <;> exact ⟨_, _, rfl, rfl⟩
set_option maxRecDepth 100000 in
set_option maxHeartbeats 1000000 in
theorem law_long (s : ByteArray) (n : Int) (w : World) (he : Env w) (hs : 300 < (s.size : Int)) (SC : Hid (∀ W : World, Env W → Calls Tryz.prog 19 #[] W fun e w' => e = .returned (.bool true) ∧ Below W.heap.size W w')) :
    Calls Tryz.prog 3 #[.string s, .int .i64 n] w fun e w' => e = .returned (.bool true) ∧ Below w.heap.size w w' := by
  have C := Lib.hid (SC.out w he)
  clear he SC
  go_enter Tryz.func3, Tryz.ntmps3
  go_wp2_with fail
  refine C.out.mono ?_
  rintro e w1 ⟨rfl, hb⟩
  have B := Lib.hid hb
  clear hb C
  go_wp2_with fail
  go_ret
  exact ⟨rfl, B.out⟩
set_option maxRecDepth 100000 in
set_option maxHeartbeats 1000000 in
theorem law_short (s : ByteArray) (n : Int) (w : World) (he : Env w) (hn : I64 n) (hs : (s.size : Int) ≤ 300) (SC : Hid (∀ W : World, Env W → Calls Tryz.prog 19 #[] W fun e w' => e = .returned (.bool true) ∧ Below W.heap.size W w')) :
    Calls Tryz.prog 3 #[.string s, .int .i64 n] w fun e w' => e = .returned (.bool true) ∧ Below w.heap.size w w' := by
  have HE := Lib.hid he
  have HN := Lib.hid hn
  have hs1 : s.size ≤ 300 := by omega
  have HS := Lib.hid hs1
  have C1 := sReadInt s w (by omega) he
  obtain ⟨a, ea, P1⟩ := rd_pair s.data.toList
  obtain ⟨x, ex, P2⟩ := tx_pair s
  obtain ⟨y, ey, P3⟩ := rt_pair (rdText s.data.toList)
  obtain ⟨wb, hwb⟩ : ∃ wb, Hid (wordL s.data.toList = wb) := ⟨_, rfl⟩
  obtain ⟨z, hz⟩ : ∃ z, Hid (bs (Lib.itoa n) = z) := ⟨_, rfl⟩
  rw [P1.out.1] at C1
  have D1 := Lib.hid C1
  clear C1 he hn hs1
  go_enter Tryz.func3, Tryz.ntmps3
  go_wp2_with fail
  refine D1.out.mono ?_
  rintro e w1 ⟨rfl, hb⟩
  have B1 := Lib.hid hb
  clear D1 hb
  go_wp2_with fail
  have C2 := rReadInt s w1 (by have := HS.out; unfold maxLen; omega)
  rw [P1.out.2] at C2
  refine C2.mono ?_
  rintro e w2 ⟨rfl, hb⟩
  have B2 : Hid (Below w.heap.size w w2) := B1.out.trans (hb.mono B1.out.size)
  clear C2 hb B1
  go_wp2_with fail
  have C3 := sText s (w2.alloc (.cells #[.int .i64 a, .int .i64 ea] 27))
  rw [P2.out.1] at C3
  refine C3.mono ?_
  rintro e w3 ⟨rfl, hb⟩
  have B3 : Hid (Below w.heap.size w w3) := (B2.out.trans ((below_alloc1 _ _).mono B2.out.size)).trans (hb.mono (by rw [World.size_alloc]; exact Nat.le_succ_of_le B2.out.size))
  have A3 := Lib.hid ((K2.new w2 (.int .i64 a) (.int .i64 ea) 27).keep hb)
  clear C3 hb B2
  go_wp2_with fail
  have C4 := rText s w3
  rw [P2.out.2] at C4
  refine C4.mono ?_
  rintro e w4 ⟨rfl, hb⟩
  have B4 : Hid (Below w.heap.size w w4) := B3.out.trans (hb.mono B3.out.size)
  have A4 := Lib.hid ((A3.out.keep hb).keep (below_alloc1 w4 (.cells #[.string x, .int .i64 ex] 32)))
  clear C4 hb B3 A3
  go_wp2_with fail
  have C5 := sReadTextAll s (w4.alloc (.cells #[.string x, .int .i64 ex] 32)) (by have := HS.out; omega)
  rw [P3.out.1] at C5
  refine C5.mono ?_
  rintro e w5 ⟨rfl, hb⟩
  have B5 : Hid (Below w.heap.size w w5) := (B4.out.trans ((below_alloc1 _ _).mono B4.out.size)).trans (hb.mono (by rw [World.size_alloc]; exact Nat.le_succ_of_le B4.out.size))
  have A5 := Lib.hid (A4.out.keep hb)
  have X5 := Lib.hid ((K2.new w4 (.string x) (.int .i64 ex) 32).keep hb)
  clear C5 hb B4 A4
  go_wp2_with fail
  have C6 := rReadTextAll s w5 (by have := HS.out; omega)
  rw [P3.out.2] at C6
  refine C6.mono ?_
  rintro e w6 ⟨rfl, hb⟩
  have B6 : Hid (Below w.heap.size w w6) := B5.out.trans (hb.mono B5.out.size)
  have A6 := Lib.hid ((A5.out.keep hb).keep (below_alloc1 w6 (.cells #[.string y, .int .i64 ey] 32)))
  have X6 := Lib.hid ((X5.out.keep hb).keep (below_alloc1 w6 (.cells #[.string y, .int .i64 ey] 32)))
  clear C6 hb B5 A5 X5
  go_wp2_with fail
  have C7 := SC.out (w6.alloc (.cells #[.string y, .int .i64 ey] 32)) ((HE.out.next B6.out).next (below_alloc1 _ _))
  refine C7.mono ?_
  rintro e w7 ⟨rfl, hb⟩
  have B7 : Hid (Below w.heap.size w w7) := (B6.out.trans ((below_alloc1 _ _).mono B6.out.size)).trans (hb.mono (by rw [World.size_alloc]; exact Nat.le_succ_of_le B6.out.size))
  have A7 := Lib.hid (A6.out.keep hb)
  have X7 := Lib.hid (X6.out.keep hb)
  have Y7 := Lib.hid ((K2.new w6 (.string y) (.int .i64 ey) 32).keep hb)
  clear C7 hb B6 A6 X6
  go_wp2_with fail
  have C8 := Word_any s w7 (by have := HS.out; unfold maxLen; omega)
  rw [hwb.out] at C8
  refine C8.mono ?_
  rintro e w' ⟨rfl, rfl⟩
  clear C8
  go_wp2_with fail
  have C9 := rWord s w7 (by have := HS.out; unfold maxLen; omega)
  rw [hwb.out] at C9
  refine C9.mono ?_
  rintro e w' ⟨rfl, rfl⟩
  clear C9
  go_wp2_with fail
  have C10 := sInt n w7 HN.out (HE.out.next B7.out)
  rw [hz.out] at C10
  refine C10.mono ?_
  rintro e w8 ⟨rfl, hb⟩
  have B8 : Hid (Below w.heap.size w w8) := B7.out.trans (hb.mono B7.out.size)
  have A8 := A7.out.keep hb
  have X8 := X7.out.keep hb
  have Y8 := Y7.out.keep hb
  obtain ⟨_, p1, p2⟩ := A8
  obtain ⟨_, p3, p4⟩ := X8
  obtain ⟨_, p5, p6⟩ := Y8
  clear C10 hb B7 A7 X7 Y7
  go_wp2_with fail
  have C11 := rInt n w8 HN.out
  rw [hz.out] at C11
  refine C11.mono ?_
  rintro e w' ⟨rfl, rfl⟩
  clear C11
  go_wp2_with fail
  go_ret
  exact ⟨rfl, B8.out⟩
/-- The law of words answers true, if what is tried at its head does. -/
theorem sheetWords_of (s : ByteArray) (n : Int) (w : World) (he : Env w) (hn : I64 n) (SC : ∀ W : World, Env W → Calls Tryz.prog 19 #[] W fun e w' => e = .returned (.bool true) ∧ Below W.heap.size W w') :
    Calls Tryz.prog 3 #[.string s, .int .i64 n] w fun e w' => e = .returned (.bool true) ∧ Below w.heap.size w w' := by
  by_cases h : 300 < (s.size : Int)
  · exact law_long s n w he h (Lib.hid SC)
  · exact law_short s n w he hn (by omega) (Lib.hid SC)
end Go.Proofs.YtmfhpddeclggfaaGreatDoor
namespace Go.Proofs.YtmfhpddeclggfaaGreatDoor
open Go.RowKit
/-- The bytes of these strings together. -/
def sumL (ts : List ByteArray) : Int := ((ts.map ByteArray.size).sum : Nat)
theorem sumL_snoc (ts : List ByteArray) (k : Nat) (h : k < ts.length) : sumL (ts.take (k + 1)) = sumL (ts.take k) + ((ts.getD k ByteArray.empty).size : Nat) := by
  unfold sumL
  rw [List.take_succ_eq_append_getElem h, List.getD, List.getElem?_eq_getElem h, List.map_append, List.sum_append]
  simp only [List.map_cons, List.map_nil, List.sum_cons, List.sum_nil, Option.getD_some, Nat.add_zero]
  omega
theorem wrap64_zero : (0 : Int) = wrap64 0 := by unfold wrap64; omega
theorem wrap64_add (a b : Int) : wrap64 (wrap64 a + b) = wrap64 (a + b) := by unfold wrap64; omega
set_option maxRecDepth 100000 in
set_option maxHeartbeats 1000000 in
theorem size_any (p : Option Addr) (cap : Nat) (ts : List ByteArray) (w : World) (hts : ts.length ≤ maxLen) (hs : ∀ j, (ts.getD j ByteArray.empty).size ≤ maxLen) (hp : StrsAt w p ts) :
    Calls Tryz.prog 30 #[.slice p ts.length cap] w fun e w' => e = .returned (.int .i64 (wrap64 (sumL ts))) ∧ w = w' := by
  have HP := Lib.hid hp
  have HS := Lib.hid hs
  unfold maxLen at hts
  clear hp hs
  go_enter Tryz.func30, Tryz.ntmps30
  go_wp2_with fail
  go_loopw [3, 8] (fun v i wr => ∃ k : Nat, k ≤ ts.length ∧ i = .int .i64 k ∧ (∃ m : Int, v = .int .i64 m ∧ Hid (m = wrap64 (sumL (ts.take k)))) ∧ w = wr) (fun _ i _ => ts.length - (intOf i).toNat)
  case atStart => exact ⟨0, Nat.zero_le _, rfl, ⟨0, rfl, wrap64_zero⟩, rfl⟩
  case round =>
    obtain ⟨k, hk, rfl, ⟨m, rfl, HM⟩, rfl⟩ := hrel
    by_cases hlt : k < ts.length
    · obtain ⟨b, o, s, rfl, hc, hs⟩ : ∃ b o s, p = some ⟨b, o, none⟩ ∧ w.cell? ⟨b, o + k, none⟩ = some (.string s) ∧ Hid (ts.getD k ByteArray.empty = s) := by
        rcases HP.out with h | ⟨b, o, e1, e2, e3⟩
        · rw [h] at hlt; exact absurd hlt (by simp)
        · exact ⟨b, o, _, e1, e3 k hlt, rfl⟩
      have hsz : s.size ≤ 9223372036854775807 := by have := HS.out k; rw [hs.out] at this; unfold maxLen at this; omega
      go_wp2_with fail
      refine ⟨⟨k + 1, by omega, by go_num, ⟨_, rfl, ?_⟩, trivial⟩, by simp [intOf]; omega⟩
      unfold Hid
      rw [HM.out, sumL_snoc ts k hlt, hs.out, wrap64_add]
    · obtain rfl : k = ts.length := by omega
      rw [List.take_length] at HM
      go_wp2_with fail
      go_ret
      exact ⟨by rw [← HM.out]; rfl, rfl⟩
end Go.Proofs.YtmfhpddeclggfaaGreatDoor
namespace Go.Proofs.YtmfhpddeclggfaaGreatDoor
open Go.RowKit
/-- Are two lines the same? -/
def sameB (n m : Int) (ws vs : List ByteArray) : Bool := decide (n = m) && (ws.map (·.data.toList) == vs.map (·.data.toList))
theorem sameB_self (n : Int) (ws : List ByteArray) : sameB n n ws ws = true := by simp [sameB]
/-- The first k words of two lists are the same. -/
def sameTo (ws vs : List ByteArray) (k : Nat) : Prop := ∀ j, j < k → (ws.getD j ByteArray.empty).data.toList = (vs.getD j ByteArray.empty).data.toList
theorem sameB_yes {n : Int} {ws vs : List ByteArray} (hl : ws.length = vs.length) (h : sameTo ws vs ws.length) : sameB n n ws vs = true := by
  have : ws.map (·.data.toList) = vs.map (·.data.toList) := by
    apply List.ext_getElem (by simpa using hl)
    intro i h1 h2
    have h3 : i < ws.length := by simpa using h1
    have := h i h3
    rw [List.getD, List.getD, List.getElem?_eq_getElem h3, List.getElem?_eq_getElem (by omega)] at this
    simpa using this
  simp [sameB, this]
theorem sameB_len {n m : Int} {ws vs : List ByteArray} (hl : ws.length ≠ vs.length) : sameB n m ws vs = false := by
  have : ¬ ws.map (·.data.toList) = vs.map (·.data.toList) := fun e => hl (by simpa using congrArg List.length e)
  simp [sameB, this]
theorem sameB_num {n m : Int} {ws vs : List ByteArray} (hl : n ≠ m) : sameB n m ws vs = false := by simp [sameB, hl]
theorem sameB_at {n m : Int} {ws vs : List ByteArray} (k : Nat) (h1 : k < ws.length) (h2 : k < vs.length) (h : (ws.getD k ByteArray.empty).data.toList ≠ (vs.getD k ByteArray.empty).data.toList) : sameB n m ws vs = false := by
  have : ¬ ws.map (·.data.toList) = vs.map (·.data.toList) := fun e => h (by
    have := congrArg (fun l => l[k]?) e
    simpa [List.getD, List.getElem?_eq_getElem h1, List.getElem?_eq_getElem h2] using this)
  simp [sameB, this]
theorem str_at {w : World} {p : Option Addr} {ws : List ByteArray} (h : StrsAt w p ws) {k : Nat} (hk : k < ws.length) : ∃ b o, p = some ⟨b, o, none⟩ ∧ b < w.heap.size ∧ w.cell? ⟨b, o + k, none⟩ = some (.string (ws.getD k ByteArray.empty)) := by
  rcases h with h | ⟨b, o, e1, e2, e3⟩
  · rw [h] at hk; exact absurd hk (by simp)
  · exact ⟨b, o, e1, e2, e3 k hk⟩
set_option maxRecDepth 100000 in
set_option maxHeartbeats 1000000 in
theorem rSame_len (n m : Int) (p q : Option Addr) (c d : Nat) (ws vs : List ByteArray) (w : World) (h : ¬ (n = m ∧ ws.length = vs.length)) :
    Calls Tryz.prog 37 #[.agg #[.int .i64 n, .slice p ws.length c], .agg #[.int .i64 m, .slice q vs.length d]] w fun e w' => e = .returned (.bool (sameB n m ws vs)) ∧ Below w.heap.size w w' := by
  have hR : Hid (sameB n m ws vs = false) := by
    by_cases h1 : n = m
    · exact sameB_len (fun e => h ⟨h1, e⟩)
    · exact sameB_num h1
  have hB : Hid (∀ A B, Below w.heap.size w ((w.alloc A).alloc B)) := fun A B => (below_alloc1 w _).alloc (by simp) _
  obtain ⟨N, hN⟩ : ∃ N, ws.length = N := ⟨_, rfl⟩
  obtain ⟨M, hM⟩ : ∃ M, vs.length = M := ⟨_, rfl⟩
  rw [hN] at h ⊢
  rw [hM] at h ⊢
  clear hN hM
  by_cases h1 : n = m
  · subst h1
    have h2 : ¬ N = M := fun e => h ⟨rfl, e⟩
    have h3 : ((N : Int) == (M : Int)) = false := by rw [beq_eq_false_iff_ne]; omega
    have h4 : ((N : Int) != (M : Int)) = true := by simp; omega
    clear h h2
    go_enter Tryz.func37, Tryz.ntmps37
    go_wp2_with fail
    go_ret
    exact ⟨ret_bool hR.out.symm, hB.out _ _⟩
  · have h3 : (n == m) = false := by rw [beq_eq_false_iff_ne]; exact h1
    have h4 : (n != m) = true := by simp [h1]
    clear h h1
    go_enter Tryz.func37, Tryz.ntmps37
    go_wp2_with fail
    go_ret
    exact ⟨ret_bool hR.out.symm, hB.out _ _⟩
/-- What stands while two lines are compared. -/
structure SmQ (w W : World) (p q : Option Addr) (c d N : Nat) (ws vs : List ByteArray) : Prop where
  bel : Below w.heap.size w W
  sp : StrsAt W p ws
  sq : StrsAt W q vs
  cA : W.cell? ⟨w.heap.size, 1, none⟩ = some (.slice p N c)
  cB : W.cell? ⟨w.heap.size + 1, 1, none⟩ = some (.slice q N d)
  lt : w.heap.size + 1 < W.heap.size
theorem SmQ.drew {w W : World} {p q : Option Addr} {c d N : Nat} {ws vs : List ByteArray} (h : SmQ w W p q c d N ws vs) (k : Nat) : SmQ w (W.drewN k) p q c d N ws vs := by
  have hb : Below W.heap.size W (W.drewN k) := below_drewN (Below.refl _ _) k
  exact ⟨below_drewN h.bel k, h.sp.below hb, h.sq.below hb, h.cA, h.cB, h.lt⟩
set_option maxRecDepth 100000 in
set_option maxHeartbeats 1000000 in
theorem rSame (n m : Int) (p q : Option Addr) (c d : Nat) (ws vs : List ByteArray) (w : World) (hl : ws.length ≤ maxLen) (hp : StrsAt w p ws) (hq : StrsAt w q vs) :
    Calls Tryz.prog 37 #[.agg #[.int .i64 n, .slice p ws.length c], .agg #[.int .i64 m, .slice q vs.length d]] w fun e w' => e = .returned (.bool (sameB n m ws vs)) ∧ Below w.heap.size w w' := by
  by_cases h : ¬ (n = m ∧ ws.length = vs.length)
  · exact rSame_len n m p q c d ws vs w h
  obtain ⟨rfl, hlen⟩ := Decidable.not_not.1 h
  clear h
  have HL := Lib.hid hlen
  obtain ⟨N, hN⟩ : ∃ N, Hid (ws.length = N) := ⟨_, rfl⟩
  have hM : Hid (vs.length = N) := hlen.symm.trans hN.out
  rw [hN.out] at hl ⊢
  rw [hM.out]
  unfold maxLen at hl
  have hB : Hid (∀ A B, Below w.heap.size w ((w.alloc A).alloc B)) := fun A B => (below_alloc1 w _).alloc (by simp) _
  have Q0 : Hid (SmQ w ((w.alloc (.cells #[.int .i64 n, .slice p N c] 39)).alloc (.cells #[.int .i64 n, .slice q N d] 39)) p q c d N ws vs) := by
    refine ⟨hB.out _ _, hp.below (hB.out _ _), hq.below (hB.out _ _), cell_al (nw_at w _ 39 1 _ rfl) _, ?_, by simp⟩
    have := nw_at (w.alloc (.cells #[.int .i64 n, .slice p N c] 39)) #[.int .i64 n, .slice q N d] 39 1 _ rfl
    rwa [World.size_alloc] at this
  clear hp hq hlen hB
  go_enter Tryz.func37, Tryz.ntmps37
  go_wp2_with fail
  go_loopw [5] (fun i wr => ∃ k : Nat, k ≤ N ∧ i = .int .i64 k ∧ Hid (SmQ w wr p q c d N ws vs) ∧ Hid (sameTo ws vs k)) (fun i _ => N - (intOf i).toNat)
  case atStart => exact ⟨0, Nat.zero_le _, rfl, Q0, fun j hj => absurd hj (Nat.not_lt_zero _)⟩
  case round =>
    clear Q0
    obtain ⟨k, hk, rfl, Q, hs⟩ := hrel
    have c0 := Q.out.cA
    have c1 := Q.out.cB
    by_cases hlt : k < N
    · obtain ⟨b, o, rfl, -, c2⟩ := str_at Q.out.sp (show k < ws.length by rw [hN.out]; exact hlt)
      obtain ⟨b', o', rfl, -, c3⟩ := str_at Q.out.sq (show k < vs.length by rw [hM.out]; exact hlt)
      obtain ⟨s, hs1⟩ : ∃ s, Hid (ws.getD k ByteArray.empty = s) := ⟨_, rfl⟩
      obtain ⟨t, ht1⟩ : ∃ t, Hid (vs.getD k ByteArray.empty = t) := ⟨_, rfl⟩
      rw [hs1.out] at c2
      rw [ht1.out] at c3
      have hlt' : (k : Int) < (N : Int) := by omega
      have hk0 : (0 : Int) ≤ (k : Int) := by omega
      by_cases he : s.data.toList = t.data.toList
      · have e1 := str_beq_true he
        have e2 : (s.toList != t.toList) = false := by rw [bne, e1]; rfl
        have HS : Hid (sameTo ws vs (k + 1)) := fun j hj => by
          by_cases e : j < k
          · exact hs.out j e
          · obtain rfl : j = k := by omega
            rw [hs1.out, ht1.out]; exact he
        clear he
        go_wp2_with fail
        go_quiet (fail)
        have Q1 := Lib.hid (Q.out.drew nq)
        go_wp2_with fail
        exact ⟨⟨k + 1, by omega, by go_num, Q1, HS⟩, by simp [intOf]; omega⟩
      · have e1 := str_beq_false he
        have e2 : (s.toList != t.toList) = true := by rw [bne, e1]; rfl
        have HS : Hid (sameB n n ws vs = false) := sameB_at k (by rw [hN.out]; exact hlt) (by rw [hM.out]; exact hlt) (by rw [hs1.out, ht1.out]; exact he)
        clear he
        go_wp2_with fail
        go_quiet (fail)
        have Q1 := Lib.hid (Q.out.drew nq)
        go_wp2_with fail
        go_ret
        exact ⟨ret_bool HS.out.symm, Q1.out.bel⟩
    · obtain rfl : k = N := by omega
      have HS : Hid (sameB n n ws vs = true) := sameB_yes HL.out (by rw [hN.out]; exact hs.out)
      go_wp2_with fail
      go_ret
      exact ⟨ret_bool HS.out.symm, Q.out.bel⟩
end Go.Proofs.YtmfhpddeclggfaaGreatDoor
