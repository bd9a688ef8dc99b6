import Derived.RangeFuncNested
import Derived.RangeFuncBound
import Derived.RangeFuncCalls
import Derived.RangeFuncLeaves
import Derived.Test.YtmfhpddeclggfaaGreatDoorGb
import Derived.RangeFuncBox
import Derived.Shelf.Abstract
import Derived.Shelf.RegionOpen
import Derived.OwnWalkIn
import Derived.TacticsInMore
import Derived.LoopNIn
import Derived.LoopIn
import Derived.Maps.AppendAt
import Derived.Maps.OwnIn
import Derived.RegionIn
import Derived.BigRegionIn
import Derived.Stop.RegionWithIn
import Derived.WalkKit
import Derived.Test.YtmfhpddeclggfaaGreatDoorGe
import Derived.LoopTactic
import Derived.WalkSpells
import Derived.WalkLawsBesides
import Derived.Lib.Hide
import Derived.BigQuiet
import Derived.IntWalk
import Derived.Deep.DeepMust
import Derived.WalkSmall
import Derived.StillTailTactics
import Derived.Deep.RegionLaw
import Derived.Deep.QuietTactic
import Derived.Deep.Cut
import Derived.Deep.DeepCutAuto
import Derived.Deep.LoopGhost
import Derived.Laws.AppendOwn
namespace Go.Proofs.YtmfhpddeclggfaaGreatDoor
open Go.RowKit
/-! The reference's harmed. -/
open Go.Shelf
def rpV (s : ByteArray) (f l : Bool) : Value := .agg #[.string s, .bool f, .bool l]
abbrev hA (s : ByteArray) (f : Bool) : Obj := .cells #[.string s, .bool f, .bool false] 162
abbrev hB (k a x d : Int) : Obj := .cells #[.int .i64 k, .int .i64 a, .int .i64 x, .int .i64 d] 154
abbrev hC : Obj := .cells #[.string ⟨#[]⟩, .bool false, .bool false] 162
/-- The world behind the conversion. -/
structure RW4 (w W : World) (s : ByteArray) (f : Bool) (k x d : Int) : Prop where
  bel : Below w.heap.size w W
  sz : w.heap.size + 1 + 1 + 1 < W.heap.size
  a0 : W.cell? ⟨w.heap.size, 0, none⟩ = some (.string s)
  a1 : W.cell? ⟨w.heap.size, 1, none⟩ = some (.bool f)
  a2 : W.cell? ⟨w.heap.size, 2, none⟩ = some (.bool false)
  b0 : W.cell? ⟨w.heap.size + 1, 0, none⟩ = some (.int .i64 k)
  b2 : W.cell? ⟨w.heap.size + 1, 2, none⟩ = some (.int .i64 x)
  b3 : W.cell? ⟨w.heap.size + 1, 3, none⟩ = some (.int .i64 d)
  c0 : W.cell? ⟨w.heap.size + 1 + 1, 0, none⟩ = some (.string ⟨#[]⟩)
  c1 : W.cell? ⟨w.heap.size + 1 + 1, 1, none⟩ = some (.bool false)
  c2 : W.cell? ⟨w.heap.size + 1 + 1, 2, none⟩ = some (.bool false)
  fa : ∀ o, W.frozen? ⟨w.heap.size, o, none⟩ = false
  fc : ∀ o, W.frozen? ⟨w.heap.size + 1 + 1, o, none⟩ = false
  cb : ∀ i, i < s.size → W.cell? ⟨w.heap.size + 1 + 1 + 1, i, none⟩ = some (.int .u8 ((s.data.toList.getD i 0).toNat : Int))
  fb : ∀ i, i < s.size → W.frozen? ⟨w.heap.size + 1 + 1 + 1, i, none⟩ = false
theorem rh_world (s : ByteArray) (f : Bool) (k a x d : Int) (w : World) : ∃ (W : World) (gc : Nat), (convert 9 106 (.string s)).run Tryz.prog (((w.alloc (hA s f)).alloc (hB k a x d)).alloc hC) = .ok (.slice (some ⟨w.heap.size + 1 + 1 + 1, 0, none⟩) s.size gc) W ∧ Hid (RW4 w W s f k x d) := by
  have hcv := Lib.run_convert_string_bytes (P := Tryz.prog) (((w.alloc (hA s f)).alloc (hB k a x d)).alloc hC) 9 106 5 s Tryz.underlying9 und106 Tryz.underlying5
  have s3 : (((w.alloc (hA s f)).alloc (hB k a x d)).alloc hC).heap.size = w.heap.size + 1 + 1 + 1 := by simp
  have s2 : ((w.alloc (hA s f)).alloc (hB k a x d)).heap.size = w.heap.size + 1 + 1 := by simp
  have s1 : (w.alloc (hA s f)).heap.size = w.heap.size + 1 := by simp
  have e1 := below_alloc1 (w.alloc (hA s f)) (hB k a x d)
  have e2 := below_alloc1 ((w.alloc (hA s f)).alloc (hB k a x d)) hC
  have e3 := Lib.bytesWorld_below (((w.alloc (hA s f)).alloc (hB k a x d)).alloc hC) 5 s
  have c := Lib.bytesWorld_cell (((w.alloc (hA s f)).alloc (hB k a x d)).alloc hC) 5 s
  have fz := frozen_bytes (((w.alloc (hA s f)).alloc (hB k a x d)).alloc hC) 5 s
  have z := Lib.bytesWorld_size (((w.alloc (hA s f)).alloc (hB k a x d)).alloc hC) 5 s
  rw [s3] at hcv e3 c fz z
  rw [s2] at e2
  rw [s1] at e1
  have n0 := fun (o : Nat) (v : Value) (h : (#[Value.string s, .bool f, .bool false] : Array Value).toList[o]? = some v) => nw_at w #[.string s, .bool f, .bool false] 162 o v h
  have n1 := fun (o : Nat) (v : Value) (h : (#[Value.int .i64 k, .int .i64 a, .int .i64 x, .int .i64 d] : Array Value).toList[o]? = some v) => nw_at (w.alloc (hA s f)) #[.int .i64 k, .int .i64 a, .int .i64 x, .int .i64 d] 154 o v h
  have n2 := fun (o : Nat) (v : Value) (h : (#[Value.string ⟨#[]⟩, .bool false, .bool false] : Array Value).toList[o]? = some v) => nw_at ((w.alloc (hA s f)).alloc (hB k a x d)) #[.string ⟨#[]⟩, .bool false, .bool false] 162 o v h
  have f0 := fun o => frozen_new w #[.string s, .bool f, .bool false] 162 o
  have f2 := fun o => frozen_new ((w.alloc (hA s f)).alloc (hB k a x d)) #[.string ⟨#[]⟩, .bool false, .bool false] 162 o
  rw [s1] at n1
  rw [s2] at n2 f2
  have up0 : ∀ o, (Lib.bytesWorld (((w.alloc (hA s f)).alloc (hB k a x d)).alloc hC) 5 s).cell? ⟨w.heap.size, o, none⟩ = (w.alloc (hA s f)).cell? ⟨w.heap.size, o, none⟩ := fun o =>
    (e3.cell (p := ⟨w.heap.size, o, none⟩) (by show w.heap.size < _; omega)).trans ((e2.cell (p := ⟨w.heap.size, o, none⟩) (by show w.heap.size < _; omega)).trans (e1.cell (p := ⟨w.heap.size, o, none⟩) (by show w.heap.size < _; omega)))
  have up1 : ∀ o, (Lib.bytesWorld (((w.alloc (hA s f)).alloc (hB k a x d)).alloc hC) 5 s).cell? ⟨w.heap.size + 1, o, none⟩ = ((w.alloc (hA s f)).alloc (hB k a x d)).cell? ⟨w.heap.size + 1, o, none⟩ := fun o =>
    (e3.cell (p := ⟨w.heap.size + 1, o, none⟩) (by show w.heap.size + 1 < _; omega)).trans (e2.cell (p := ⟨w.heap.size + 1, o, none⟩) (by show w.heap.size + 1 < _; omega))
  have up2 : ∀ o, (Lib.bytesWorld (((w.alloc (hA s f)).alloc (hB k a x d)).alloc hC) 5 s).cell? ⟨w.heap.size + 1 + 1, o, none⟩ = (((w.alloc (hA s f)).alloc (hB k a x d)).alloc hC).cell? ⟨w.heap.size + 1 + 1, o, none⟩ := fun o =>
    e3.cell (p := ⟨w.heap.size + 1 + 1, o, none⟩) (by show w.heap.size + 1 + 1 < _; omega)
  refine ⟨_, _, hcv, ((below_alloc1 w _).trans ((e1.mono (by omega)).trans ((e2.mono (by omega)).trans (e3.mono (by omega))))), by omega, (up0 0).trans (n0 0 _ rfl), (up0 1).trans (n0 1 _ rfl), (up0 2).trans (n0 2 _ rfl), (up1 0).trans (n1 0 _ rfl), (up1 2).trans (n1 2 _ rfl), (up1 3).trans (n1 3 _ rfl), (up2 0).trans (n2 0 _ rfl), (up2 1).trans (n2 1 _ rfl), (up2 2).trans (n2 2 _ rfl), fun o => ?_, fun o => ?_, c, fz⟩
  · exact (e3.frozen (p := ⟨w.heap.size, o, none⟩) (by show w.heap.size < _; omega)).trans ((e2.frozen (p := ⟨w.heap.size, o, none⟩) (by show w.heap.size < _; omega)).trans ((e1.frozen (p := ⟨w.heap.size, o, none⟩) (by show w.heap.size < _; omega)).trans (f0 o)))
  · exact (e3.frozen (p := ⟨w.heap.size + 1 + 1, o, none⟩) (by show w.heap.size + 1 + 1 < _; omega)).trans (f2 o)
theorem below_sc {B : Nat} {w W : World} {p : Addr} (v : Value) (hp : B ≤ p.block) (h : Below B w W) : Below B w (W.setCell p v) := h.setCell (p := p) hp v
set_option maxRecDepth 100000 in
set_option maxHeartbeats 4000000 in
theorem rHd_lost (s : ByteArray) (f : Bool) (k a x d : Int) (w : World) :
    Calls Tryz.prog 105 #[rpV s f true, hmV ⟨k, a, x, d⟩] w fun e w' => e = .returned (.tuple #[rpV s f true, .int .i64 0]) ∧ Below w.heap.size w w' := by
  unfold hmV rpV
  go_enter Tryz.func105, Tryz.ntmps105
  go_wp2_with fail
  refine bodyPost_ret (v := .tuple #[.agg #[.string s, .bool f, .bool true], .int .i64 0]) (by simp [results, Tryz.results105, go_sem]) rfl ⟨rfl, ?_⟩
  exact ((below_alloc1 w _).alloc (by simp) _).alloc (by simp; omega) _
set_option maxRecDepth 100000 in
set_option maxHeartbeats 4000000 in
theorem rHd_1 (s : ByteArray) (f : Bool) (a x d : Int) (w : World) (_hs : s.size ≤ 1000000) :
    Calls Tryz.prog 105 #[rpV s f false, hmV ⟨1, a, x, d⟩] w fun e w' => e = .returned (.tuple #[rpV s f true, .int .i64 0]) ∧ Below w.heap.size w w' := by
  unfold hmV rpV
  obtain ⟨W, gc, hcv, F⟩ := rh_world s f 1 a x d w
  have a0 := F.out.a0
  have a1 := F.out.a1
  have a2 := F.out.a2
  have b0 := F.out.b0
  have b2 := F.out.b2
  have b3 := F.out.b3
  have c0 := F.out.c0
  have c1 := F.out.c1
  have c2 := F.out.c2
  have fa0 := F.out.fa 0
  have fa2 := F.out.fa 2
  have fc0 := F.out.fc 0
  have fc1 := F.out.fc 1
  have fc2 := F.out.fc 2
  go_enter Tryz.func105, Tryz.ntmps105
  go_wp2_with (go_at_call 77; first | (refine (in_yes _ _ _ _ (by omega) (by omega)).mono ?_; rintro e w' ⟨rfl, rfl⟩) | (refine (in_no _ _ _ _ (by omega)).mono ?_; rintro e w' ⟨rfl, rfl⟩))
  refine bodyPost_ret (v := .tuple #[.agg #[.string s, .bool f, .bool true], .int .i64 0]) (by simp [results, Tryz.results105, go_sem, c0, c1, c2]) rfl ⟨rfl, ?_⟩
  repeat (refine below_sc _ (by simp <;> omega) ?_)
  exact F.out.bel
set_option maxRecDepth 100000 in
set_option maxHeartbeats 4000000 in
theorem rHd_2n (s : ByteArray) (f : Bool) (a x d : Int) (w : World) (_hs : s.size ≤ 1000000) (hx : x < 0 ∨ (s.size : Int) < x) :
    Calls Tryz.prog 105 #[rpV s f false, hmV ⟨2, a, x, d⟩] w fun e w' => e = .returned (.tuple #[rpV s f false, .int .i64 1]) ∧ Below w.heap.size w w' := by
  unfold hmV rpV
  obtain ⟨W, gc, hcv, F⟩ := rh_world s f 2 a x d w
  have a0 := F.out.a0
  have a1 := F.out.a1
  have a2 := F.out.a2
  have b0 := F.out.b0
  have b2 := F.out.b2
  have b3 := F.out.b3
  have c0 := F.out.c0
  have c1 := F.out.c1
  have c2 := F.out.c2
  have fa0 := F.out.fa 0
  have fa2 := F.out.fa 2
  have fc0 := F.out.fc 0
  have fc1 := F.out.fc 1
  have fc2 := F.out.fc 2
  go_enter Tryz.func105, Tryz.ntmps105
  go_wp2_with (go_at_call 77; first | (refine (in_yes _ _ _ _ (by omega) (by omega)).mono ?_; rintro e w' ⟨rfl, rfl⟩) | (refine (in_no _ _ _ _ (by omega)).mono ?_; rintro e w' ⟨rfl, rfl⟩))
  refine bodyPost_ret (v := .tuple #[.agg #[.string s, .bool f, .bool false], .int .i64 1]) (by simp [results, Tryz.results105, go_sem, c0, c1, c2]) rfl ⟨rfl, ?_⟩
  repeat (refine below_sc _ (by simp <;> omega) ?_)
  exact F.out.bel
set_option maxRecDepth 100000 in
set_option maxHeartbeats 4000000 in
theorem rHd_2y (s : ByteArray) (f : Bool) (a x d : Int) (w : World) (_hs : s.size ≤ 1000000) (h1 : 0 ≤ x) (h2 : x ≤ (s.size : Int)) :
    Calls Tryz.prog 105 #[rpV s f false, hmV ⟨2, a, x, d⟩] w fun e w' => e = .returned (.tuple #[rpV (s.extract 0 x.toNat) f false, .int .i64 0]) ∧ Below w.heap.size w w' := by
  unfold hmV rpV
  obtain ⟨W, gc, hcv, F⟩ := rh_world s f 2 a x d w
  obtain ⟨n, rfl⟩ := Int.eq_ofNat_of_zero_le h1
  have h3 : n ≤ s.size := by omega
  rw [Int.toNat_natCast]
  have a0 := F.out.a0
  have a1 := F.out.a1
  have a2 := F.out.a2
  have b0 := F.out.b0
  have b2 := F.out.b2
  have b3 := F.out.b3
  have c0 := F.out.c0
  have c1 := F.out.c1
  have c2 := F.out.c2
  have fa0 := F.out.fa 0
  have fa2 := F.out.fa 2
  have fc0 := F.out.fc 0
  have fc1 := F.out.fc 1
  have fc2 := F.out.fc 2
  go_enter Tryz.func105, Tryz.ntmps105
  go_wp2_with (go_at_call 77; first | (refine (in_yes _ _ _ _ (by omega) (by omega)).mono ?_; rintro e w' ⟨rfl, rfl⟩) | (refine (in_no _ _ _ _ (by omega)).mono ?_; rintro e w' ⟨rfl, rfl⟩))
  refine bodyPost_ret (v := .tuple #[.agg #[.string (s.extract 0 n), .bool f, .bool false], .int .i64 0]) (by simp [results, Tryz.results105, go_sem, c0, c1, c2]) rfl ⟨rfl, ?_⟩
  repeat (refine below_sc _ (by simp <;> omega) ?_)
  exact F.out.bel
theorem set_bytes {W : World} {b : Nat} {l : List UInt8} (h : ∀ i, i < l.length → W.cell? ⟨b, i, none⟩ = some (.int .u8 ((l.getD i 0).toNat : Int))) {n : Nat} (hn : n < l.length) (c : UInt8) : ∀ i, i < (l.set n c).length → (W.setCell ⟨b, n, none⟩ (.int .u8 (c.toNat : Int))).cell? ⟨b, i, none⟩ = some (.int .u8 (((l.set n c).getD i 0).toNat : Int)) := fun i hi => by
  rw [List.length_set] at hi
  by_cases e : i = n
  · subst e
    rw [World.cell?_setCell_same _ _ _ (h i hi), List.getD, List.getElem?_set_self hn]; rfl
  · rw [World.cell?_setCell_other _ _ _ _ (addr_ne (Ne.symm e)), h i hi, List.getD, List.getD, List.getElem?_set_ne (Ne.symm e)]
theorem conv_bytes {W : World} {b n gc : Nat} {l : List UInt8} (hl : l.length = n) (h : ∀ i, i < l.length → W.cell? ⟨b, i, none⟩ = some (.int .u8 ((l.getD i 0).toNat : Int))) : (convert 106 9 (.slice (some ⟨b, 0, none⟩) n gc)).run Tryz.prog W = .ok (.string (bs l)) W := by
  subst hl
  have := run_convert_bytes_arg (P := Tryz.prog) W 106 5 und106 Tryz.underlying5 b 0 l.length gc (l.map fun b => (b.toNat : Int)) (by simp) (fun i hi => by
    rw [Nat.zero_add, h i hi]
    simp [List.getD, hi]) 9 Tryz.underlying9
  rwa [strOfNums_bytes] at this
set_option maxRecDepth 100000 in
set_option maxHeartbeats 4000000 in
theorem rHd_5n (s : ByteArray) (f : Bool) (a x d : Int) (w : World) (hs : s.size ≤ 1000000) (hx : x < 0 ∨ (s.size : Int) - 2 < x) :
    Calls Tryz.prog 105 #[rpV s f false, hmV ⟨5, a, x, d⟩] w fun e w' => e = .returned (.tuple #[rpV s f false, .int .i64 1]) ∧ Below w.heap.size w w' := by
  unfold hmV rpV
  obtain ⟨W, gc, hcv, F⟩ := rh_world s f 5 a x d w
  have a0 := F.out.a0
  have a1 := F.out.a1
  have a2 := F.out.a2
  have b0 := F.out.b0
  have b2 := F.out.b2
  have b3 := F.out.b3
  have c0 := F.out.c0
  have c1 := F.out.c1
  have c2 := F.out.c2
  have fa0 := F.out.fa 0
  have fa2 := F.out.fa 2
  have fc0 := F.out.fc 0
  have fc1 := F.out.fc 1
  have fc2 := F.out.fc 2
  go_enter Tryz.func105, Tryz.ntmps105
  go_wp2_with (go_at_call 77; first | (refine (in_yes _ _ _ _ (by omega) (by omega)).mono ?_; rintro e w' ⟨rfl, rfl⟩) | (refine (in_no _ _ _ _ (by omega)).mono ?_; rintro e w' ⟨rfl, rfl⟩))
  refine bodyPost_ret (v := .tuple #[.agg #[.string s, .bool f, .bool false], .int .i64 1]) (by simp [results, Tryz.results105, go_sem, c0, c1, c2]) rfl ⟨rfl, ?_⟩
  repeat (refine below_sc _ (by simp <;> omega) ?_)
  exact F.out.bel
set_option maxRecDepth 100000 in
set_option maxHeartbeats 4000000 in
theorem rHd_3n (s : ByteArray) (f : Bool) (a x d : Int) (w : World) (hs : s.size ≤ 1000000) (hx : x < 0 ∨ (s.size : Int) - 1 < x) :
    Calls Tryz.prog 105 #[rpV s f false, hmV ⟨3, a, x, d⟩] w fun e w' => e = .returned (.tuple #[rpV s f false, .int .i64 1]) ∧ Below w.heap.size w w' := by
  unfold hmV rpV
  obtain ⟨W, gc, hcv, F⟩ := rh_world s f 3 a x d w
  have a0 := F.out.a0
  have a1 := F.out.a1
  have a2 := F.out.a2
  have b0 := F.out.b0
  have b2 := F.out.b2
  have b3 := F.out.b3
  have c0 := F.out.c0
  have c1 := F.out.c1
  have c2 := F.out.c2
  have fa0 := F.out.fa 0
  have fa2 := F.out.fa 2
  have fc0 := F.out.fc 0
  have fc1 := F.out.fc 1
  have fc2 := F.out.fc 2
  go_enter Tryz.func105, Tryz.ntmps105
  go_wp2_with (go_at_call 77; first | (refine (in_yes _ _ _ _ (by omega) (by omega)).mono ?_; rintro e w' ⟨rfl, rfl⟩) | (refine (in_no _ _ _ _ (by omega)).mono ?_; rintro e w' ⟨rfl, rfl⟩))
  refine bodyPost_ret (v := .tuple #[.agg #[.string s, .bool f, .bool false], .int .i64 1]) (by simp [results, Tryz.results105, go_sem, c0, c1, c2]) rfl ⟨rfl, ?_⟩
  repeat (refine below_sc _ (by simp <;> omega) ?_)
  exact F.out.bel
set_option maxRecDepth 100000 in
set_option maxHeartbeats 4000000 in
theorem rHd_4n (s : ByteArray) (f : Bool) (a x d : Int) (w : World) (hs : s.size ≤ 1000000) (hx : x < 0 ∨ (s.size : Int) - 1 < x) :
    Calls Tryz.prog 105 #[rpV s f false, hmV ⟨4, a, x, d⟩] w fun e w' => e = .returned (.tuple #[rpV s f false, .int .i64 1]) ∧ Below w.heap.size w w' := by
  unfold hmV rpV
  obtain ⟨W, gc, hcv, F⟩ := rh_world s f 4 a x d w
  have a0 := F.out.a0
  have a1 := F.out.a1
  have a2 := F.out.a2
  have b0 := F.out.b0
  have b2 := F.out.b2
  have b3 := F.out.b3
  have c0 := F.out.c0
  have c1 := F.out.c1
  have c2 := F.out.c2
  have fa0 := F.out.fa 0
  have fa2 := F.out.fa 2
  have fc0 := F.out.fc 0
  have fc1 := F.out.fc 1
  have fc2 := F.out.fc 2
  go_enter Tryz.func105, Tryz.ntmps105
  go_wp2_with (go_at_call 77; first | (refine (in_yes _ _ _ _ (by omega) (by omega)).mono ?_; rintro e w' ⟨rfl, rfl⟩) | (refine (in_no _ _ _ _ (by omega)).mono ?_; rintro e w' ⟨rfl, rfl⟩))
  refine bodyPost_ret (v := .tuple #[.agg #[.string s, .bool f, .bool false], .int .i64 1]) (by simp [results, Tryz.results105, go_sem, c0, c1, c2]) rfl ⟨rfl, ?_⟩
  repeat (refine below_sc _ (by simp <;> omega) ?_)
  exact F.out.bel
set_option maxRecDepth 100000 in
set_option maxHeartbeats 4000000 in
theorem rHd_4m (s : ByteArray) (f : Bool) (a x d : Int) (w : World) (hs : s.size ≤ 1000000) (h1 : 0 ≤ x) (h2 : x ≤ (s.size : Int) - 1) (hd : d < 0 ∨ 255 < d) :
    Calls Tryz.prog 105 #[rpV s f false, hmV ⟨4, a, x, d⟩] w fun e w' => e = .returned (.tuple #[rpV s f false, .int .i64 1]) ∧ Below w.heap.size w w' := by
  unfold hmV rpV
  obtain ⟨W, gc, hcv, F⟩ := rh_world s f 4 a x d w
  have a0 := F.out.a0
  have a1 := F.out.a1
  have a2 := F.out.a2
  have b0 := F.out.b0
  have b2 := F.out.b2
  have b3 := F.out.b3
  have c0 := F.out.c0
  have c1 := F.out.c1
  have c2 := F.out.c2
  have fa0 := F.out.fa 0
  have fa2 := F.out.fa 2
  have fc0 := F.out.fc 0
  have fc1 := F.out.fc 1
  have fc2 := F.out.fc 2
  go_enter Tryz.func105, Tryz.ntmps105
  go_wp2_with (go_at_call 77; first | (refine (in_yes _ _ _ _ (by omega) (by omega)).mono ?_; rintro e w' ⟨rfl, rfl⟩) | (refine (in_no _ _ _ _ (by omega)).mono ?_; rintro e w' ⟨rfl, rfl⟩))
  refine bodyPost_ret (v := .tuple #[.agg #[.string s, .bool f, .bool false], .int .i64 1]) (by simp [results, Tryz.results105, go_sem, c0, c1, c2]) rfl ⟨rfl, ?_⟩
  repeat (refine below_sc _ (by simp <;> omega) ?_)
  exact F.out.bel
set_option maxRecDepth 100000 in
set_option maxHeartbeats 4000000 in
theorem rHd_3y (s : ByteArray) (f : Bool) (a x d : Int) (w : World) (hs : s.size ≤ 1000000) (h1 : 0 ≤ x) (h2 : x ≤ (s.size : Int) - 1) :
    Calls Tryz.prog 105 #[rpV s f false, hmV ⟨3, a, x, d⟩] w fun e w' => e = .returned (.tuple #[rpV (bs (s.data.toList.set x.toNat 63)) f false, .int .i64 0]) ∧ Below w.heap.size w w' := by
  unfold hmV rpV
  obtain ⟨W, gc, hcv, F⟩ := rh_world s f 3 a x d w
  obtain ⟨n, rfl⟩ := Int.eq_ofNat_of_zero_le h1
  have hsl : s.data.toList.length = s.size := by simp
  have h3 : n < s.data.toList.length := by omega
  have hcb0 : ∀ i, i < s.data.toList.length → W.cell? ⟨w.heap.size + 1 + 1 + 1, i, none⟩ = some (.int .u8 ((s.data.toList.getD i 0).toNat : Int)) := fun i hi => F.out.cb i (by omega)
  have hconv := conv_bytes (gc := gc) (n := s.size) (by rw [List.length_set]; exact hsl) (set_bytes hcb0 h3 (63))
  have e63 : ((63 : UInt8).toNat : Int) = 63 := rfl
  rw [e63] at hconv
  have hcb := F.out.cb n (by omega)
  have hfb := F.out.fb n (by omega)
  rw [Int.toNat_natCast]
  obtain ⟨T, hT⟩ : ∃ T, bs (s.data.toList.set n (63)) = T := ⟨_, rfl⟩
  rw [hT] at hconv ⊢
  have h4 : (n : Int) < (s.size : Int) := by omega
  clear hcb0 hT
  have a0 := F.out.a0
  have a1 := F.out.a1
  have a2 := F.out.a2
  have b0 := F.out.b0
  have b2 := F.out.b2
  have b3 := F.out.b3
  have c0 := F.out.c0
  have c1 := F.out.c1
  have c2 := F.out.c2
  have fa0 := F.out.fa 0
  have fa2 := F.out.fa 2
  have fc0 := F.out.fc 0
  have fc1 := F.out.fc 1
  have fc2 := F.out.fc 2
  go_enter Tryz.func105, Tryz.ntmps105
  go_wp2_with (go_at_call 77; first | (refine (in_yes _ _ _ _ (by omega) (by omega)).mono ?_; rintro e w' ⟨rfl, rfl⟩) | (refine (in_no _ _ _ _ (by omega)).mono ?_; rintro e w' ⟨rfl, rfl⟩))
  refine bodyPost_ret (v := .tuple #[.agg #[.string T, .bool f, .bool false], .int .i64 0]) (by simp [results, Tryz.results105, go_sem, c0, c1, c2]) rfl ⟨rfl, ?_⟩
  repeat (refine below_sc _ (by simp <;> omega) ?_)
  exact F.out.bel
set_option maxRecDepth 100000 in
set_option maxHeartbeats 4000000 in
theorem rHd_4y (s : ByteArray) (f : Bool) (a x d : Int) (w : World) (hs : s.size ≤ 1000000) (h1 : 0 ≤ x) (h2 : x ≤ (s.size : Int) - 1) (hd1 : 0 ≤ d) (hd2 : d ≤ 255) :
    Calls Tryz.prog 105 #[rpV s f false, hmV ⟨4, a, x, d⟩] w fun e w' => e = .returned (.tuple #[rpV (bs (s.data.toList.set x.toNat (UInt8.ofNat d.toNat))) f false, .int .i64 0]) ∧ Below w.heap.size w w' := by
  unfold hmV rpV
  obtain ⟨W, gc, hcv, F⟩ := rh_world s f 4 a x d w
  obtain ⟨n, rfl⟩ := Int.eq_ofNat_of_zero_le h1
  obtain ⟨e, rfl⟩ := Int.eq_ofNat_of_zero_le hd1
  rw [Int.toNat_natCast]
  have hsl : s.data.toList.length = s.size := by simp
  have h3 : n < s.data.toList.length := by omega
  have hcb0 : ∀ i, i < s.data.toList.length → W.cell? ⟨w.heap.size + 1 + 1 + 1, i, none⟩ = some (.int .u8 ((s.data.toList.getD i 0).toNat : Int)) := fun i hi => F.out.cb i (by omega)
  have hconv := conv_bytes (gc := gc) (n := s.size) (by rw [List.length_set]; exact hsl) (set_bytes hcb0 h3 (UInt8.ofNat e))
  have eU : ((UInt8.ofNat e).toNat : Int) = (e : Int) := by
    rw [UInt8.toNat_ofNat']
    omega
  rw [eU] at hconv
  have hcb := F.out.cb n (by omega)
  have hfb := F.out.fb n (by omega)
  rw [Int.toNat_natCast]
  obtain ⟨T, hT⟩ : ∃ T, bs (s.data.toList.set n (UInt8.ofNat e)) = T := ⟨_, rfl⟩
  rw [hT] at hconv ⊢
  have h4 : (n : Int) < (s.size : Int) := by omega
  clear hcb0 hT
  have a0 := F.out.a0
  have a1 := F.out.a1
  have a2 := F.out.a2
  have b0 := F.out.b0
  have b2 := F.out.b2
  have b3 := F.out.b3
  have c0 := F.out.c0
  have c1 := F.out.c1
  have c2 := F.out.c2
  have fa0 := F.out.fa 0
  have fa2 := F.out.fa 2
  have fc0 := F.out.fc 0
  have fc1 := F.out.fc 1
  have fc2 := F.out.fc 2
  go_enter Tryz.func105, Tryz.ntmps105
  go_wp2_with (go_at_call 77; first | (refine (in_yes _ _ _ _ (by omega) (by omega)).mono ?_; rintro e w' ⟨rfl, rfl⟩) | (refine (in_no _ _ _ _ (by omega)).mono ?_; rintro e w' ⟨rfl, rfl⟩))
  refine bodyPost_ret (v := .tuple #[.agg #[.string T, .bool f, .bool false], .int .i64 0]) (by simp [results, Tryz.results105, go_sem, c0, c1, c2]) rfl ⟨rfl, ?_⟩
  repeat (refine below_sc _ (by simp <;> omega) ?_)
  exact F.out.bel
theorem swap_ne {l : List UInt8} {n : Nat} (_h : n + 1 < l.length) : True := trivial
set_option maxRecDepth 100000 in
set_option maxHeartbeats 4000000 in
theorem rHd_5y (s : ByteArray) (f : Bool) (a x d : Int) (w : World) (hs : s.size ≤ 1000000) (h1 : 0 ≤ x) (h2 : x ≤ (s.size : Int) - 2) :
    Calls Tryz.prog 105 #[rpV s f false, hmV ⟨5, a, x, d⟩] w fun e w' => e = .returned (.tuple #[rpV (bs (swapAt s.data.toList x.toNat)) f false, .int .i64 0]) ∧ Below w.heap.size w w' := by
  unfold hmV rpV
  obtain ⟨W, gc, hcv, F⟩ := rh_world s f 5 a x d w
  obtain ⟨n, rfl⟩ := Int.eq_ofNat_of_zero_le h1
  have hsl : s.data.toList.length = s.size := by simp
  have h3 : n < s.data.toList.length := by omega
  have h3' : n + 1 < s.data.toList.length := by omega
  have hcb0 : ∀ i, i < s.data.toList.length → W.cell? ⟨w.heap.size + 1 + 1 + 1, i, none⟩ = some (.int .u8 ((s.data.toList.getD i 0).toNat : Int)) := fun i hi => F.out.cb i (by omega)
  have hcb := F.out.cb n (by omega)
  have hcb1 := F.out.cb (n + 1) (by omega)
  have hfb := F.out.fb n (by omega)
  have hfb1 := F.out.fb (n + 1) (by omega)
  obtain ⟨u, hu⟩ : ∃ u, s.data.toList.getD n 0 = u := ⟨_, rfl⟩
  obtain ⟨v, hv⟩ : ∃ v, s.data.toList.getD (n + 1) 0 = v := ⟨_, rfl⟩
  have hconv := conv_bytes (W := ((W.setCell ⟨w.heap.size + 1 + 1 + 1, n, none⟩ (.int .u8 (v.toNat : Int))).setCell ⟨w.heap.size + 1 + 1 + 1, n + 1, none⟩ (.int .u8 (u.toNat : Int))).drew) (gc := gc) (n := s.size) (by rw [List.length_set, List.length_set]; exact hsl) (set_bytes (n := n + 1) (set_bytes hcb0 h3 v) (by rw [List.length_set]; exact h3') u)
  rw [Int.toNat_natCast]
  unfold swapAt
  rw [hu, hv]
  rw [hu] at hcb
  rw [hv] at hcb1
  obtain ⟨T, hT⟩ : ∃ T, bs ((s.data.toList.set n v).set (n + 1) u) = T := ⟨_, rfl⟩
  rw [hT] at hconv ⊢
  have h4 : (n : Int) < (s.size : Int) := by omega
  have h5 : (n : Int) + 1 < (s.size : Int) := by omega
  have hw : IntKind.i64.wrap ((n : Int) + 1) = (n : Int) + 1 := IntWalk.i64_in _ ⟨by omega, by omega⟩
  clear hcb0 hT
  have a0 := F.out.a0
  have a1 := F.out.a1
  have a2 := F.out.a2
  have b0 := F.out.b0
  have b2 := F.out.b2
  have b3 := F.out.b3
  have c0 := F.out.c0
  have c1 := F.out.c1
  have c2 := F.out.c2
  have fa0 := F.out.fa 0
  have fa2 := F.out.fa 2
  have fc0 := F.out.fc 0
  have fc1 := F.out.fc 1
  have fc2 := F.out.fc 2
  go_enter Tryz.func105, Tryz.ntmps105
  go_wp2_with (go_at_call 77; first | (refine (in_yes _ _ _ _ (by omega) (by omega)).mono ?_; rintro e w' ⟨rfl, rfl⟩) | (refine (in_no _ _ _ _ (by omega)).mono ?_; rintro e w' ⟨rfl, rfl⟩))
  go_region
  go_wp2_with (go_at_call 77; first | (refine (in_yes _ _ _ _ (by omega) (by omega)).mono ?_; rintro e w' ⟨rfl, rfl⟩) | (refine (in_no _ _ _ _ (by omega)).mono ?_; rintro e w' ⟨rfl, rfl⟩))
  refine bodyPost_ret (v := .tuple #[.agg #[.string T, .bool f, .bool false], .int .i64 0]) (by simp [results, Tryz.results105, go_sem, c0, c1, c2]) rfl ⟨rfl, ?_⟩
  refine Below.drew ?_
  repeat (refine below_sc _ (by simp <;> omega) ?_)
  exact F.out.bel
end Go.Proofs.YtmfhpddeclggfaaGreatDoor
