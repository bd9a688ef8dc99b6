import Derived.Carry
import Derived.Laws.Tables
import Derived.Test.YtmfhpddeclggfaaGreatDoorLa
import Derived.Test.YtmfhpddeclggfaaGreatDoorD7
import Derived.Test.YtmfhpddeclggfaaGreatDoorFam
import Derived.Laws.StructEq
import Derived.MapKept
import Derived.WideKeyRuns
import Derived.Maps.Own
import Derived.WalkKit
import Derived.LoopTactic
import Derived.WalkSpells
import Derived.WalkLawsBesides
import Derived.Lib.Hide
import Derived.BigQuiet
import Derived.IntWalk
import Derived.Deep.DeepMust
import Derived.WalkSmall
import Derived.StillTailTactics
import Derived.Deep.RegionLaw
import Derived.Deep.QuietTactic
import Derived.Deep.RegionHeld3
import Derived.Deep.AppendLies
namespace Go.Proofs.YtmfhpddeclggfaaGreatDoor
open Go.RowKit
theorem rep_in (N : Nat) (x z : Value) (R : List Value) (n : Nat) (h : n < N) : (List.replicate N x ++ z :: R)[n]? = some x := by
  rw [List.getElem?_append_left (by simpa using h), List.getElem?_replicate, if_pos h]
theorem rep_at (N : Nat) (x z : Value) (R : List Value) : (List.replicate N x ++ z :: R)[N]? = some z := by
  rw [List.getElem?_append_right (by simp)]; simp
theorem dk_cells (m : Nat) : (Tryz.zeroCells212.setIfInBounds 402 (.map (some m))).toList[0]? = some (.int .i64 0) ∧ (∀ n, n ≤ 400 → (Tryz.zeroCells212.setIfInBounds 402 (.map (some m))).toList[1 + n]? = some (.slice none 0 0)) ∧ (Tryz.zeroCells212.setIfInBounds 402 (.map (some m))).toList[402]? = some (.map (some m)) := by
  have e : (Tryz.zeroCells212.setIfInBounds 402 (.map (some m))).toList = .int .i64 0 :: (List.replicate 401 (.slice none 0 0) ++ .map (some m) :: List.replicate 401 (.slice none 0 0)) := by kernel_rfl
  rw [e]
  refine ⟨rfl, fun n hn => ?_, ?_⟩
  · rw [Nat.add_comm 1 n, List.getElem?_cons_succ]; exact rep_in _ _ _ _ n (Nat.lt_succ_of_le hn)
  · rw [show (402 : Nat) = 401 + 1 from rfl, List.getElem?_cons_succ]; exact rep_at _ _ _ _
/-- A desk that is laid anew. -/
theorem la_0 (t1 t2 : ByteArray) (W : World) (cs : Array Value) (h0 : cs.toList[0]? = some (.int .i64 0)) (h1 : ∀ n, n ≤ 400 → cs.toList[1 + n]? = some (.slice none 0 0)) (h2 : cs.toList[402]? = some (.map (some W.heap.size))) :
    La 0 [] [] t1 t2 (W.heap.size + 1) W.heap.size ((W.alloc (.map #[] 0)).alloc (.cells cs 212)) := by
  have hc : ∀ o v, cs.toList[o]? = some v → ((W.alloc (.map #[] 0)).alloc (.cells cs 212)).cell? ⟨W.heap.size + 1, o, none⟩ = some v := by
    intro o v h
    have := nw_at (W.alloc (.map #[] 0)) cs 212 o v h
    rwa [World.size_alloc] at this
  have hfz : ∀ o, ((W.alloc (.map #[] 0)).alloc (.cells cs 212)).frozen? ⟨W.heap.size + 1, o, none⟩ = false := by
    intro o
    have := frozen_new (W.alloc (.map #[] 0)) cs 212 o
    rwa [World.size_alloc] at this
  refine ⟨W.heap.size + 2, fun _ => .slice none 0 0, .slice none 0 0, .slice none 0 0, ⟨hc 0 _ h0, fun n hn => hc _ _ (h1 n hn), hc _ _ h2, hfz, ?_⟩, ⟨fun i => ?_, fun i j g hi => ?_⟩, by simp, by omega, by omega, fun _ => rfl, fun _ => rfl⟩
  · refine ⟨#[], 0, ?_, rfl⟩
    rw [(grown_al (W.alloc (.map #[] 0)) (.cells cs 212)).block W.heap.size (by simp) (by simp)]
    exact heap_last _ _
  · match i with
    | 0 => exact World.ownsRow_nil _ _ _ _
    | 1 => exact World.ownsRow_nil _ _ _ _
    | 2 => exact World.ownsRow_nil _ _ _ _
    | 3 => exact World.ownsRow_nil _ _ _ _
  · match i with
    | 0 => cases hi
    | 1 => cases hi
    | 2 => cases hi
    | 3 => cases hi
set_option maxRecDepth 100000 in
set_option maxHeartbeats 4000000 in
theorem lay_san (t1 t2 : ByteArray) (sb : Nat) (p0 p1 : Option Addr) (c0 c1 B0 : Nat) (W : World) (h0 : W.cell? ⟨sb, 0, none⟩ = some (.slice p0 2 c0)) (h1 : W.cell? ⟨sb, 1, none⟩ = some (.slice p1 1 c1)) (hs0 : ScAt B0 W p0 [⟨1, t1, true⟩, ⟨2, t2, true⟩]) (hs1 : ScAt B0 W p1 [⟨2, t2, true⟩]) :
    Calls Tryz.prog 140 #[.slice (some ⟨sb, 0, none⟩) 2 2] W fun e w' => ∃ D M, e = .returned (.pointer (some ⟨D, 0, none⟩)) ∧ La 2 [0] [0, 1] t1 t2 D M w' ∧ Below W.heap.size W w' := by
  have hmm := @run_makeMap Tryz.prog
  obtain ⟨k0, k1, k2⟩ := dk_cells W.heap.size
  obtain ⟨cs, hcs⟩ : ∃ cs, Tryz.zeroCells212.setIfInBounds 402 (.map (some W.heap.size)) = cs := ⟨_, rfl⟩
  rw [hcs] at k0 k1 k2
  have HL0 := Lib.hid (la_0 t1 t2 W cs k0 k1 k2)
  have hB0 : Below W.heap.size W ((W.alloc (.map #[] 0)).alloc (.cells cs 212)) := ((Below.refl _ _).alloc (Nat.le_refl _) _).alloc (by simp) _
  obtain ⟨W1, hW1⟩ : ∃ W1, (W.alloc (.map #[] 0)).alloc (.cells cs 212) = W1 := ⟨_, rfl⟩
  rw [hW1] at HL0 hB0
  have HB0 := Lib.hid hB0
  obtain ⟨g0, rfl, -, l0, m0⟩ : ∃ g, p0 = some ⟨g, 0, none⟩ ∧ B0 ≤ g ∧ g < W.heap.size ∧ ∀ j s, ([⟨1, t1, true⟩, ⟨2, t2, true⟩] : List Sc)[j]? = some s → W.cell? ⟨g, j * 3, none⟩ = some (.int .i64 s.n) ∧ W.cell? ⟨g, j * 3 + 1, none⟩ = some (.string s.t) ∧ W.cell? ⟨g, j * 3 + 2, none⟩ = some (.bool s.b) := hs0.resolve_left (by simp)
  obtain ⟨g1, rfl, -, l1, m1⟩ : ∃ g, p1 = some ⟨g, 0, none⟩ ∧ B0 ≤ g ∧ g < W.heap.size ∧ ∀ j s, ([⟨2, t2, true⟩] : List Sc)[j]? = some s → W.cell? ⟨g, j * 3, none⟩ = some (.int .i64 s.n) ∧ W.cell? ⟨g, j * 3 + 1, none⟩ = some (.string s.t) ∧ W.cell? ⟨g, j * 3 + 2, none⟩ = some (.bool s.b) := hs1.resolve_left (by simp)
  have hsb : sb < W.heap.size := World.block_lt_of_cell? W ⟨sb, 0, none⟩ h0
  -- all that is read, in any later world
  have RD : Hid (∀ w', Below W.heap.size W w' → w'.cell? ⟨sb, 0, none⟩ = some (.slice (some ⟨g0, 0, none⟩) 2 c0) ∧ w'.cell? ⟨sb, 1, none⟩ = some (.slice (some ⟨g1, 0, none⟩) 1 c1) ∧
      (w'.cell? ⟨g0, 0, none⟩ = some (.int .i64 1) ∧ w'.cell? ⟨g0, 1, none⟩ = some (.string t1) ∧ w'.cell? ⟨g0, 2, none⟩ = some (.bool true)) ∧
      (w'.cell? ⟨g0, 3, none⟩ = some (.int .i64 2) ∧ w'.cell? ⟨g0, 4, none⟩ = some (.string t2) ∧ w'.cell? ⟨g0, 5, none⟩ = some (.bool true)) ∧
      (w'.cell? ⟨g1, 0, none⟩ = some (.int .i64 2) ∧ w'.cell? ⟨g1, 1, none⟩ = some (.string t2) ∧ w'.cell? ⟨g1, 2, none⟩ = some (.bool true))) := by
    intro w' hb
    have c : ∀ b o v, b < W.heap.size → W.cell? ⟨b, o, none⟩ = some v → w'.cell? ⟨b, o, none⟩ = some v := fun b o v hl h => (hb.cell (p := ⟨b, o, none⟩) hl).trans h
    obtain ⟨a1, a2, a3⟩ := m0 0 _ rfl
    obtain ⟨a4, a5, a6⟩ := m0 1 _ rfl
    obtain ⟨a7, a8, a9⟩ := m1 0 _ rfl
    exact ⟨c _ _ _ hsb h0, c _ _ _ hsb h1, ⟨c _ _ _ l0 a1, c _ _ _ l0 a2, c _ _ _ l0 a3⟩, ⟨c _ _ _ l0 a4, c _ _ _ l0 a5, c _ _ _ l0 a6⟩, c _ _ _ l1 a7, c _ _ _ l1 a8, c _ _ _ l1 a9⟩
  clear k0 k1 k2 hs0 hs1 h0 h1 l0 l1 m0 m1 hsb hB0
  go_enter Tryz.func140, Tryz.ntmps140
  go_wp2_with fail
  clear hcs hW1 hmm
  obtain ⟨r0, r1, ⟨r2, r3, r4⟩, -⟩ := RD.out W1 HB0.out
  have b0 : Below W.heap.size W1 (W1.alloc (.cells #[.int .i64 1, .string t1, .bool true] 224)) := (Below.refl _ _).alloc HB0.out.size _
  have c0 := HL0.out.below (below_alloc1 W1 (.cells #[.int .i64 1, .string t1, .bool true] 224))
  have C1 := Lib.hid (la_1 t1 t2 (W.heap.size + 1) W.heap.size W.heap.size _ (by omega) (by omega) c0 0)
  have HX0 := Lib.hid b0
  clear b0 c0
  refine wp_loop_rounds 3 ?_
  rw [rounds_succ]
  go_wp2_with fail
  refine wp_loop_rounds 3 ?_
  rw [rounds_succ]
  go_wp2_with fail
  refine C1.out.mono ?_
  rintro e W2 ⟨rfl, hl, hb⟩
  have HB2 : Hid (Below W.heap.size W W2) := (HB0.out.trans HX0.out).trans hb
  have c0 := hl.below (below_alloc1 W2 (.cells #[.int .i64 2, .string t2, .bool true] 224))
  have C2 := Lib.hid (la_2 t1 t2 (W.heap.size + 1) W.heap.size W.heap.size _ (by omega) (by omega) [0] (by simp) c0 0)
  have HX2 : Hid (Below W.heap.size W2 (W2.alloc (.cells #[.int .i64 2, .string t2, .bool true] 224))) := (Below.refl _ _).alloc HB2.out.size _
  clear C1 hl hb c0 HL0 r0 r1 r2 r3 r4
  obtain ⟨r0, r1, -, ⟨r2, r3, r4⟩, -⟩ := RD.out W2 HB2.out
  go_wp2_with fail
  rw [rounds_succ]
  go_wp2_with fail
  refine C2.out.mono ?_
  rintro e W3 ⟨rfl, hl, hb⟩
  have HB3 : Hid (Below W.heap.size W W3) := (HB2.out.trans HX2.out).trans hb
  have c0 := hl.below (below_alloc1 W3 (.cells #[.int .i64 2, .string t2, .bool true] 224))
  have C3 := Lib.hid (la_3 t1 t2 (W.heap.size + 1) W.heap.size W.heap.size _ (by omega) (by omega) [0] [0] (by simp) (by simp) 1 (by simp) (by simp) c0)
  have HX3 : Hid (Below W.heap.size W3 (W3.alloc (.cells #[.int .i64 2, .string t2, .bool true] 224))) := (Below.refl _ _).alloc HB3.out.size _
  clear C2 hl hb c0 r0 r1 r2 r3 r4
  obtain ⟨r0, r1, -, -, ⟨r2, r3, r4⟩⟩ := RD.out W3 HB3.out
  go_wp2_with fail
  rw [rounds_succ]
  go_wp2_with fail
  rw [rounds_succ]
  go_wp2_with fail
  refine wp_loop_rounds 2 ?_
  rw [rounds_succ]
  go_wp2_with fail
  refine C3.out.mono ?_
  rintro e W4 ⟨rfl, hl, hb⟩
  have HB4 : Hid (Below W.heap.size W W4) := (HB3.out.trans HX3.out).trans hb
  have HL4 := Lib.hid hl
  clear C3 hl hb r0 r1 r2 r3 r4
  go_wp2_with fail
  rw [rounds_succ]
  go_wp2_with fail
  rw [rounds_succ]
  go_wp2_with fail
  go_ret
  exact ⟨_, _, rfl, HL4.out, HB4.out⟩
end Go.Proofs.YtmfhpddeclggfaaGreatDoor
