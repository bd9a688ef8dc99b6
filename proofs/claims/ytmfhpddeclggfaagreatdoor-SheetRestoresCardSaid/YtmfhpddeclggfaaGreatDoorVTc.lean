import Derived.Test.YtmfhpddeclggfaaGreatDoorTf
import Derived.Test.YtmfhpddeclggfaaGreatDoorKf
import Derived.Test.YtmfhpddeclggfaaGreatDoorVc
import Derived.Test.YtmfhpddeclggfaaGreatDoorOm
import Derived.Lib.ConvBytes
import Derived.Laws.IdiomStrings
import Derived.WalkKit
import Derived.LoopTactic
import Derived.WalkSpells
import Derived.WalkLawsBesides
import Derived.Lib.Hide
import Derived.BigQuiet
import Derived.IntWalk
import Derived.Deep.DeepMust
import Derived.WalkSmall
import Derived.StillTailTactics
import Derived.Deep.RegionLaw
import Derived.Deep.QuietTactic
import Derived.Deep.Cut
import Derived.Deep.DeepCutAuto
import Derived.Deep.LoopGhost
import Derived.Deep.RegionHeld3
import Derived.Laws.OwnMore
namespace Go.Proofs.YtmfhpddeclggfaaGreatDoor
open Go.RowKit
/-! What happens to a line: the program's fated. -/
def U16At (W : World) (p : Option Addr) (zs : List Nat) : Prop :=
  zs = [] ∨ ∃ b o, p = some ⟨b, o, none⟩ ∧ b < W.heap.size ∧ ∀ j, j < zs.length → W.cell? ⟨b, o + j, none⟩ = some (.int .u16 ((zs.getD j 0 : Nat) : Int))
theorem U16At.below {W W' : World} {p : Option Addr} {zs : List Nat} (h : U16At W p zs) (hb : Below W.heap.size W W') : U16At W' p zs := by
  rcases h with h | ⟨b, o, h1, h2, h3⟩
  · exact .inl h
  · exact .inr ⟨b, o, h1, Nat.lt_of_lt_of_le h2 hb.size, fun j hj => (hb.cell (p := ⟨b, o + j, none⟩) h2).trans (h3 j hj)⟩
theorem byw_frozen (w : World) (e : TypeId) (s : ByteArray) (j : Nat) (hj : j < s.size) : (Lib.bytesWorld w e s).frozen? ⟨w.heap.size, j, none⟩ = false := by
  have h1 := Lib.bytesWorld_at_new w e s
  have h2 : s.size ≤ (Lib.bytesCells w e s).size := by
    unfold Lib.bytesCells
    simp only [Array.size_append, Array.size_map]
    exact Nat.le_add_right _ _
  unfold World.frozen?
  simp only [h1]
  simp
  omega
/-- Bytes in a block of the call's own. -/
structure ByT (w W : World) (bk : Nat) (l : List UInt8) : Prop where
  bel : Below w.heap.size w W
  ge : w.heap.size ≤ bk
  lt : bk < W.heap.size
  at' : ∀ j, j < l.length → W.cell? ⟨bk, j, none⟩ = some (.int .u8 (l.getD j 0).toNat)
  fz : ∀ j, j < l.length → W.frozen? ⟨bk, j, none⟩ = false
theorem ByT.mk0 {w W : World} (hb : Below w.heap.size w W) (s : ByteArray) : ByT w (Lib.bytesWorld W 5 s) W.heap.size s.data.toList :=
  ⟨hb.trans (Joins.below_bytesWorld _ _ _ _ hb.size), hb.size, by rw [Lib.bytesWorld_size]; omega, fun j hj => Lib.bytesWorld_cell W 5 s j (by simpa using hj), fun j hj => byw_frozen W 5 s j (by simpa using hj)⟩
theorem ByT.set {w W : World} {bk : Nat} {l : List UInt8} (h : ByT w W bk l) {i : Nat} (hi : i < l.length) (c : UInt8) : ByT w (W.setCell ⟨bk, i, none⟩ (.int .u8 (c.toNat : Int))) bk (l.set i c) := by
  refine ⟨h.bel.setCell (p := ⟨bk, i, none⟩) h.ge _, h.ge, by rw [World.size_setCell]; exact h.lt, fun j hj => ?_, fun j hj => by rw [World.frozen?_setCell]; exact h.fz j (by rwa [List.length_set] at hj)⟩
  rw [List.length_set] at hj
  by_cases e : i = j
  · subst e
    rw [World.cell?_setCell_same _ _ _ (h.at' i hi)]
    simp [List.getD, hi]
  · rw [World.cell?_setCell_other _ _ _ _ (addr_ne e), h.at' j hj]
    simp [List.getD, e]
theorem ByT.take {w W : World} {bk : Nat} {l : List UInt8} (h : ByT w W bk l) (k : Nat) : ByT w W bk (l.take k) := by
  refine ⟨h.bel, h.ge, h.lt, fun j hj => ?_, fun j hj => h.fz j (by rw [List.length_take] at hj; omega)⟩
  rw [List.length_take] at hj
  rw [List.getD, List.getElem?_take_of_lt (by omega)]
  exact h.at' j (by omega)
theorem ByT.str {w W : World} {bk : Nat} {l : List UInt8} (h : ByT w W bk l) (n cap : Nat) (hn : l.length = n) : (convert 106 9 (.slice (some ⟨bk, 0, none⟩) n cap)).run Tryz.prog W = .ok (.string (bs l)) W := by
  subst hn
  refine run_convert_bytes_back W 106 9 5 ⟨bk, 0, none⟩ cap l Tryz.underlying106 Tryz.underlying5 Tryz.underlying9 (fun j hj => ?_)
  have := h.at' j hj
  rw [List.getD, List.getElem?_eq_getElem hj] at this
  by_cases h0 : j = 0
  · subst h0; simpa [Addr.add] using this
  · simpa [Addr.add, h0] using this
/-- The fate's cells. -/
structure FC (w W : World) (kd pos : Nat) (p : Option Addr) (n cap : Nat) (byt : UInt8) : Prop where
  c0 : W.cell? ⟨w.heap.size, 0, none⟩ = some (.int .u8 (kd : Int))
  c1 : W.cell? ⟨w.heap.size, 1, none⟩ = some (.int .u16 (pos : Int))
  c2 : W.cell? ⟨w.heap.size, 2, none⟩ = some (.slice p n cap)
  c3 : W.cell? ⟨w.heap.size, 3, none⟩ = some (.int .u8 (byt.toNat : Int))
theorem FC.mk0 (w : World) (kd pos : Nat) (p : Option Addr) (n cap : Nat) (byt : UInt8) : FC w (w.alloc (.cells #[.int .u8 (kd : Int), .int .u16 (pos : Int), .slice p n cap, .int .u8 (byt.toNat : Int)] 194)) kd pos p n cap byt :=
  ⟨nw_at w _ 194 0 _ rfl, nw_at w _ 194 1 _ rfl, nw_at w _ 194 2 _ rfl, nw_at w _ 194 3 _ rfl⟩
theorem FC.keep {w W W' : World} {kd pos : Nat} {p : Option Addr} {n cap : Nat} {byt : UInt8} (h : FC w W kd pos p n cap byt) (hc : ∀ o, W'.cell? ⟨w.heap.size, o, none⟩ = W.cell? ⟨w.heap.size, o, none⟩) : FC w W' kd pos p n cap byt :=
  ⟨(hc 0).trans h.c0, (hc 1).trans h.c1, (hc 2).trans h.c2, (hc 3).trans h.c3⟩
theorem blotL_snoc (l : List UInt8) (pl : List Nat) (k : Nat) (h : k < pl.length) : blotL l (pl.take (k + 1)) = (blotL l (pl.take k)).set (pl.getD k 0 % (blotL l (pl.take k)).length) 63 := by
  unfold blotL
  rw [List.take_succ_eq_append_getElem h, List.foldl_append, List.getD, List.getElem?_eq_getElem h]
  rfl
theorem blotL_len' : ∀ (pl : List Nat) (c : List UInt8), (blotL c pl).length = c.length
  | [], _ => rfl
  | p :: pl, c => by
    show (blotL (c.set (p % c.length) 63) pl).length = _
    rw [blotL_len' pl, List.length_set]
def fatP (w : World) (s : ByteArray) (f : Ft) (e : Ending) (w' : World) : Prop :=
  e = .returned (.tuple #[.string (bs ((fatC s.data.toList f).getD [])), .bool (fatC s.data.toList f).isSome]) ∧ Below w.heap.size w w'
theorem mod7 (kd : Nat) (r : Nat) (h : kd % 7 = r) (_hk : kd ≤ 255) : ((kd : Int) % 7) = (r : Int) := by omega
set_option maxRecDepth 100000 in
set_option maxHeartbeats 4000000 in
theorem fated_0 (s : ByteArray) (kd pos : Nat) (p : Option Addr) (cap : Nat) (pl : List Nat) (byt : UInt8) (w : World) (h0 : 0 < s.size) (h1 : s.size ≤ 1000000) (hk : kd ≤ 255) (hp : pos ≤ 65535)
    (hr : kd % 7 = 0 ∨ kd % 7 = 1 ∨ kd % 7 = 2) :
    Calls Tryz.prog 124 #[.string s, .agg #[.int .u8 (kd : Int), .int .u16 (pos : Int), .slice p pl.length cap, .int .u8 (byt.toNat : Int)]] w (fatP w s ⟨kd, pos, pl, byt⟩) := by
  have F0 := FC.mk0 w kd pos p pl.length cap byt
  have HB0 : Hid (Below w.heap.size w (w.alloc (.cells #[.int .u8 (kd : Int), .int .u16 (pos : Int), .slice p pl.length cap, .int .u8 (byt.toNat : Int)] 194))) := below_alloc1 _ _
  have hlt : w.heap.size < (w.alloc (.cells #[.int .u8 (kd : Int), .int .u16 (pos : Int), .slice p pl.length cap, .int .u8 (byt.toNat : Int)] 194)).heap.size := by simp
  obtain ⟨W0, hW0⟩ : ∃ W0, Hid (w.alloc (.cells #[.int .u8 (kd : Int), .int .u16 (pos : Int), .slice p pl.length cap, .int .u8 (byt.toNat : Int)] 194) = W0) := ⟨_, rfl⟩
  rw [hW0.out] at F0 HB0 hlt
  have BY := Lib.hid (ByT.mk0 HB0.out s)
  have F1 := F0.keep (W' := Lib.bytesWorld W0 5 s) (fun o => (Joins.below_bytesWorld _ W0 5 s (Nat.le_refl _)).cell (p := ⟨w.heap.size, o, none⟩) hlt)
  have c0 := F1.c0
  have c1 := F1.c1
  have c2 := F1.c2
  have kc := fun W : World => Lib.run_convert_string_bytes (P := Tryz.prog) W 9 106 5 s Tryz.underlying9 Tryz.underlying106 Tryz.underlying5
  have HB1 := Lib.hid BY.out.bel
  have kb := BY.out.str s.size (grownCap W0 s.size 0 5) (by simp)
  have hs0 : ((s.size : Int) == 0) = false := by rw [beq_eq_false_iff_ne]; omega
  have hi0 : (pos : Int) % (s.size : Int) = ((pos % s.size : Nat) : Int) := by simp
  obtain ⟨i, hi1⟩ : ∃ i, pos % s.size = i := ⟨_, rfl⟩
  have hil : i < s.size := by rw [← hi1]; exact Nat.mod_lt _ h0
  have HI := Lib.hid hi1
  have HIL := Lib.hid hil
  rw [hi1] at hi0
  have HF : Hid (fatC s.data.toList ⟨kd, pos, pl, byt⟩ = if kd % 7 = 1 then none else if kd % 7 = 2 then some (s.data.toList.take i) else some s.data.toList) := by
    unfold Hid fatC
    dsimp only
    rw [show s.data.toList.length = s.size from by simp, hi1]
    rcases hr with e | e | e <;> simp [e]
  have hm := fun r e => mod7 kd r e hk
  clear F0 F1 BY hlt
  rcases hr with e | e | e
  · have hm0 := hm 0 e
    rw [e] at HF
    clear hm
    go_enter Tryz.func124, Tryz.ntmps124
    go_upto_region 1 with (fail)
    rw [hW0.out]
    clear hW0
    go_wp2_with fail
    go_ret2
    refine ⟨?_, HB1.out⟩
    rw [HF.out]
    rfl
  · have hm0 := hm 1 e
    rw [e] at HF
    clear hm
    go_enter Tryz.func124, Tryz.ntmps124
    go_upto_region 1 with (fail)
    rw [hW0.out]
    clear hW0
    go_wp2_with fail
    go_ret2
    refine ⟨?_, HB1.out⟩
    rw [HF.out]
    rfl
  · have hm0 := hm 2 e
    rw [e] at HF
    clear hm
    have hex : Hid (s.extract 0 i = bs (s.data.toList.take i)) := data_inj1 (by rw [Lib.extract_from_zero]; rfl)
    go_enter Tryz.func124, Tryz.ntmps124
    go_upto_region 1 with (fail)
    rw [hW0.out]
    clear hW0
    go_wp2_with fail
    go_ret2
    refine ⟨?_, HB1.out⟩
    rw [HF.out]
    show Ending.returned (.tuple #[.string (s.extract 0 i), .bool true]) = _
    rw [hex.out]
    rfl
set_option maxRecDepth 100000 in
set_option maxHeartbeats 4000000 in
theorem fated_5 (s : ByteArray) (kd pos : Nat) (p : Option Addr) (cap : Nat) (pl : List Nat) (byt : UInt8) (w : World) (h0 : 0 < s.size) (h1 : s.size ≤ 1000000) (hk : kd ≤ 255) (hp : pos ≤ 65535)
    (hr : kd % 7 = 5 ∨ kd % 7 = 6) :
    Calls Tryz.prog 124 #[.string s, .agg #[.int .u8 (kd : Int), .int .u16 (pos : Int), .slice p pl.length cap, .int .u8 (byt.toNat : Int)]] w (fatP w s ⟨kd, pos, pl, byt⟩) := by
  have F0 := FC.mk0 w kd pos p pl.length cap byt
  have HB0 : Hid (Below w.heap.size w (w.alloc (.cells #[.int .u8 (kd : Int), .int .u16 (pos : Int), .slice p pl.length cap, .int .u8 (byt.toNat : Int)] 194))) := below_alloc1 _ _
  have hlt : w.heap.size < (w.alloc (.cells #[.int .u8 (kd : Int), .int .u16 (pos : Int), .slice p pl.length cap, .int .u8 (byt.toNat : Int)] 194)).heap.size := by simp
  obtain ⟨W0, hW0⟩ : ∃ W0, Hid (w.alloc (.cells #[.int .u8 (kd : Int), .int .u16 (pos : Int), .slice p pl.length cap, .int .u8 (byt.toNat : Int)] 194) = W0) := ⟨_, rfl⟩
  rw [hW0.out] at F0 HB0 hlt
  have BY := Lib.hid (ByT.mk0 HB0.out s)
  have F1 := F0.keep (W' := Lib.bytesWorld W0 5 s) (fun o => (Joins.below_bytesWorld _ W0 5 s (Nat.le_refl _)).cell (p := ⟨w.heap.size, o, none⟩) hlt)
  have kc := fun W : World => Lib.run_convert_string_bytes (P := Tryz.prog) W 9 106 5 s Tryz.underlying9 Tryz.underlying106 Tryz.underlying5
  obtain ⟨W1, hW1⟩ : ∃ W1, Hid (Lib.bytesWorld W0 5 s = W1) := ⟨_, rfl⟩
  have e0 : Hid (W0.heap.size = W0.heap.size) := rfl
  obtain ⟨bk, hbk⟩ : ∃ bk, Hid (W0.heap.size = bk) := ⟨_, rfl⟩
  obtain ⟨cp2, hcp⟩ : ∃ cp2, Hid (grownCap W0 s.size 0 5 = cp2) := ⟨_, rfl⟩
  rw [hW1.out] at F1 BY
  rw [hbk.out] at BY
  have c0 := F1.c0
  have c1 := F1.c1
  have c3 := F1.c3
  have hs0 : ((s.size : Int) == 0) = false := by rw [beq_eq_false_iff_ne]; omega
  obtain ⟨i, hi1⟩ : ∃ i, pos % s.size = i := ⟨_, rfl⟩
  have hi0 : (pos : Int) % (s.size : Int) = (i : Int) := by rw [← hi1]; simp
  have hil : i < s.size := by rw [← hi1]; exact Nat.mod_lt _ h0
  have hll : s.data.toList.length = s.size := by simp
  have HIL := Lib.hid hil
  have hm := fun r e => mod7 kd r e hk
  rcases hr with e | e
  · have HF : Hid (fatC s.data.toList ⟨kd, pos, pl, byt⟩ = some (s.data.toList.set i byt)) := by
      unfold Hid fatC
      dsimp only
      rw [hll, hi1]
      simp [e]
    have hm0 := hm 5 e
    have BS := Lib.hid (BY.out.set (by rw [hll]; exact hil) byt)
    have kb := BS.out.str s.size cp2 (by rw [List.length_set, hll])
    have c5 := BY.out.at' i (by rw [hll]; exact hil)
    have f5 := BY.out.fz i (by rw [hll]; exact hil)
    have hiI : (i : Int) < (s.size : Int) := by omega
    clear hm e hi1 F1 hlt BY HB0 F0 hll
    go_enter Tryz.func124, Tryz.ntmps124
    go_upto_region 1 with (fail)
    rw [hW0.out]
    clear hW0
    go_upto_region 2 with (fail)
    rw [hW1.out, hbk.out, hcp.out]
    clear hW1 hbk hcp kc
    go_wp2_with fail
    go_ret2
    refine ⟨?_, BS.out.bel⟩
    rw [HF.out]
    rfl
  · have hm0 := hm 6 e
    by_cases h2 : i + 1 < s.size
    · have HF : Hid (fatC s.data.toList ⟨kd, pos, pl, byt⟩ = some (swp s.data.toList i)) := by
        unfold Hid fatC
        dsimp only
        rw [hll, hi1]
        simp [e, h2]
      have g1 : IntKind.i64.wrap ((i : Int) + 1) = (i : Int) + 1 := by rw [IntKind.wrap_i64]; omega
      have g2 : (0 : Int) ≤ (i : Int) + 1 := by omega
      have g3 : ((i : Int) + 1).toNat = i + 1 := by omega
      have g4 : (i : Int) + 1 < (s.size : Int) := by omega
      have g5 : (i : Int) < (s.size : Int) := by omega
      have g6 : (0 : Int) ≤ (i : Int) := by omega
      have c6 := BY.out.at' i (by rw [hll]; exact hil)
      have c7 := BY.out.at' (i + 1) (by rw [hll]; exact h2)
      have f6 := BY.out.fz i (by rw [hll]; exact hil)
      have f7 := BY.out.fz (i + 1) (by rw [hll]; exact h2)
      have BS := Lib.hid ((BY.out.set (by rw [hll]; exact hil) (s.data.toList.getD (i + 1) 0)).set (i := i + 1) (by rw [List.length_set, hll]; exact h2) (s.data.toList.getD i 0))
      rw [show (s.data.toList.set i (s.data.toList.getD (i + 1) 0)).set (i + 1) (s.data.toList.getD i 0) = swp s.data.toList i from rfl] at BS
      have BD : Hid (ByT w ((W1.setCell ⟨bk, i, none⟩ (.int .u8 ((s.data.toList.getD (i + 1) 0).toNat : Int))).setCell ⟨bk, i + 1, none⟩ (.int .u8 ((s.data.toList.getD i 0).toNat : Int))).drew bk (swp s.data.toList i)) := ⟨BS.out.bel.drew, BS.out.ge, BS.out.lt, BS.out.at', BS.out.fz⟩
      have kb := BD.out.str s.size cp2 (by unfold swp; rw [List.length_set, List.length_set, hll])
      obtain ⟨y0, hy0⟩ : ∃ y0, Hid (s.data.toList.getD i 0 = y0) := ⟨_, rfl⟩
      obtain ⟨y1, hy1⟩ : ∃ y1, Hid (s.data.toList.getD (i + 1) 0 = y1) := ⟨_, rfl⟩
      rw [hy0.out] at c6 kb
      rw [hy1.out] at c7 kb
      obtain ⟨z, hz⟩ : ∃ z, Hid (bs (swp s.data.toList i) = z) := ⟨_, rfl⟩
      rw [hz.out] at kb
      have HB9 : Hid (Below w.heap.size w ((W1.setCell ⟨bk, i, none⟩ (.int .u8 (y1.toNat : Int))).setCell ⟨bk, i + 1, none⟩ (.int .u8 (y0.toNat : Int))).drew) := by rw [← hy0.out, ← hy1.out]; exact BD.out.bel
      clear hm e hi1 F1 hlt BY HB0 F0 hll BS BD hy0 hy1
      go_enter Tryz.func124, Tryz.ntmps124
      go_upto_region 1 with (fail)
      rw [hW0.out]
      clear hW0
      go_upto_region 2 with (fail)
      rw [hW1.out, hbk.out, hcp.out]
      clear hW1 hbk hcp kc
      go_upto_region 21 with (fail)
      go_region
      all_goals
        go_wp2_with fail
        go_ret2
        refine ⟨?_, HB9.out⟩
        rw [HF.out]
        show Ending.returned (.tuple #[.string z, .bool true]) = _
        rw [← hz.out]
        rfl
    · have HF : Hid (fatC s.data.toList ⟨kd, pos, pl, byt⟩ = some s.data.toList) := by
        unfold Hid fatC
        dsimp only
        rw [hll, hi1]
        simp [e, h2]
      have g1 : IntKind.i64.wrap ((i : Int) + 1) = (i : Int) + 1 := by rw [IntKind.wrap_i64]; omega
      have g4 : ¬ (i : Int) + 1 < (s.size : Int) := by omega
      have HB9 := Lib.hid BY.out.bel
      have kb := BY.out.str s.size cp2 (by rw [hll])
      clear hm e hi1 F1 hlt BY HB0 F0 hll
      go_enter Tryz.func124, Tryz.ntmps124
      go_upto_region 1 with (fail)
      rw [hW0.out]
      clear hW0
      go_upto_region 2 with (fail)
      rw [hW1.out, hbk.out, hcp.out]
      clear hW1 hbk hcp kc
      go_wp2_with fail
      go_ret2
      refine ⟨?_, HB9.out⟩
      rw [HF.out]
      rfl
def nT : Value → Int | .int _ q => q | _ => 0
theorem u16_at {W : World} {p : Option Addr} {zs : List Nat} (h : U16At W p zs) {k : Nat} (hk : k < zs.length) : ∃ b o, p = some ⟨b, o, none⟩ ∧ b < W.heap.size ∧ W.cell? ⟨b, o + k, none⟩ = some (.int .u16 ((zs.getD k 0 : Nat) : Int)) := by
  rcases h with h | ⟨b, o, h1, h2, h3⟩
  · rw [h] at hk; exact absurd hk (Nat.not_lt_zero _)
  · exact ⟨b, o, h1, h2, h3 k hk⟩
/-- Bytes being blotted. -/
structure BB (w W : World) (bk : Nat) (l : List UInt8) (kd pos : Nat) (p : Option Addr) (n cap : Nat) (byt : UInt8) : Prop where
  b : ByT w W bk l
  f : FC w W kd pos p n cap byt
  ne : w.heap.size < bk
theorem BB.set {w W : World} {bk : Nat} {l : List UInt8} {kd pos : Nat} {p : Option Addr} {n cap : Nat} {byt : UInt8} (h : BB w W bk l kd pos p n cap byt) {i : Nat} (hi : i < l.length) : BB w (W.setCell ⟨bk, i, none⟩ (.int .u8 63)) bk (l.set i 63) kd pos p n cap byt :=
  ⟨h.b.set hi 63, h.f.keep (fun o => World.cell?_setCell_other _ _ _ _ (fun e => by have := congrArg Addr.block e; have h2 := h.ne; simp only at this; omega)), h.ne⟩
set_option maxRecDepth 100000 in
set_option maxHeartbeats 4000000 in
theorem fated_3 (s : ByteArray) (kd pos : Nat) (p : Option Addr) (cap : Nat) (pl : List Nat) (byt : UInt8) (w : World) (h0 : 0 < s.size) (h1 : s.size ≤ 1000000) (hk : kd ≤ 255) (hp : pos ≤ 65535)
    (hpl : pl.length ≤ 1000000) (hat : U16At w p pl) (hpb : ∀ k, pl.getD k 0 ≤ 65535) (hr : kd % 7 = 3 ∨ kd % 7 = 4) :
    Calls Tryz.prog 124 #[.string s, .agg #[.int .u8 (kd : Int), .int .u16 (pos : Int), .slice p pl.length cap, .int .u8 (byt.toNat : Int)]] w (fatP w s ⟨kd, pos, pl, byt⟩) := by
  have HAT := Lib.hid hat
  have HPB := Lib.hid hpb
  obtain ⟨N, hN⟩ : ∃ N, Hid (pl.length = N) := ⟨_, rfl⟩
  rw [hN.out] at hpl ⊢
  have F0 := FC.mk0 w kd pos p N cap byt
  have HB0 : Hid (Below w.heap.size w (w.alloc (.cells #[.int .u8 (kd : Int), .int .u16 (pos : Int), .slice p N cap, .int .u8 (byt.toNat : Int)] 194))) := below_alloc1 _ _
  have hlt : w.heap.size < (w.alloc (.cells #[.int .u8 (kd : Int), .int .u16 (pos : Int), .slice p N cap, .int .u8 (byt.toNat : Int)] 194)).heap.size := by simp
  obtain ⟨W0, hW0⟩ : ∃ W0, Hid (w.alloc (.cells #[.int .u8 (kd : Int), .int .u16 (pos : Int), .slice p N cap, .int .u8 (byt.toNat : Int)] 194) = W0) := ⟨_, rfl⟩
  rw [hW0.out] at F0 HB0 hlt
  have BY := Lib.hid (ByT.mk0 HB0.out s)
  have F1 := F0.keep (W' := Lib.bytesWorld W0 5 s) (fun o => (Joins.below_bytesWorld _ W0 5 s (Nat.le_refl _)).cell (p := ⟨w.heap.size, o, none⟩) hlt)
  have kc := fun W : World => Lib.run_convert_string_bytes (P := Tryz.prog) W 9 106 5 s Tryz.underlying9 Tryz.underlying106 Tryz.underlying5
  obtain ⟨W1, hW1⟩ : ∃ W1, Hid (Lib.bytesWorld W0 5 s = W1) := ⟨_, rfl⟩
  have BB0 : Hid (BB w W1 W0.heap.size s.data.toList kd pos p N cap byt) := by rw [← hW1.out]; exact ⟨BY.out, F1, hlt⟩
  obtain ⟨bk, hbk⟩ : ∃ bk, Hid (W0.heap.size = bk) := ⟨_, rfl⟩
  have hge := grownCap_ge W0 s.size 0 5
  obtain ⟨cp2, hcp⟩ : ∃ cp2, Hid (grownCap W0 s.size 0 5 = cp2) := ⟨_, rfl⟩
  rw [hcp.out] at hge
  have HGE := Lib.hid hge
  clear hge
  rw [hW1.out] at F1
  rw [hbk.out] at BB0
  have c0 := F1.c0
  have c1 := F1.c1
  have c2 := F1.c2
  have hs0 : ((s.size : Int) == 0) = false := by rw [beq_eq_false_iff_ne]; omega
  obtain ⟨i, hi1⟩ : ∃ i, pos % s.size = i := ⟨_, rfl⟩
  have hi0 : (pos : Int) % (s.size : Int) = (i : Int) := by rw [← hi1]; simp
  have hil : i < s.size := by rw [← hi1]; exact Nat.mod_lt _ h0
  have hll : s.data.toList.length = s.size := by simp
  have HIL := Lib.hid hil
  have HH0 := Lib.hid h0
  have hm := fun r e => mod7 kd r e hk
  have HF : Hid (fatC s.data.toList ⟨kd, pos, pl, byt⟩ = if kd % 7 = 3 then some (blotL s.data.toList pl) else some ((blotL s.data.toList pl).take i)) := by
    unfold Hid fatC
    dsimp only
    rw [hll, hi1]
    rcases hr with e | e <;> simp [e]
  have HLB := Lib.hid (fun k => (blotL_len' (pl.take k) s.data.toList).trans hll)
  have HLE := Lib.hid ((blotL_len' pl s.data.toList).trans hll)
  rcases hr with e | e
  · have hm0 := hm 3 e
    rw [e] at HF
    clear hm e hi1 F1 hlt BY HB0 F0 hll hat hpb
    go_enter Tryz.func124, Tryz.ntmps124
    go_upto_region 1 with (fail)
    rw [hW0.out]
    clear hW0
    go_upto_region 2 with (fail)
    rw [hW1.out, hbk.out, hcp.out]
    clear hW1 hbk hcp kc
    go_wp2_with fail
    clear c0 c1 c2
    go_loopw [34] (fun i wr => ∃ k : Nat, k ≤ N ∧ i = .int .i64 k ∧ Hid (BB w wr bk (blotL s.data.toList (pl.take k)) kd pos p N cap byt)) (fun i _ => N - (nT i).toNat)
    case atStart => exact ⟨0, Nat.zero_le _, rfl, BB0⟩
    case round =>
      clear BB0
      obtain ⟨k, hk, rfl, B⟩ := hrel
      by_cases hlt : k < N
      · obtain ⟨b, o, rfl, hb1, e1⟩ := u16_at (HAT.out.below B.out.b.bel) (show k < pl.length by rw [hN.out]; exact hlt)
        have hx := HPB.out k
        have HSN : Hid (blotL s.data.toList (pl.take (k + 1)) = (blotL s.data.toList (pl.take k)).set (pl.getD k 0 % s.size) 63) := by unfold Hid; rw [blotL_snoc _ _ _ (by rw [hN.out]; exact hlt), HLB.out k]
        obtain ⟨x, hxe⟩ : ∃ x, Hid (pl.getD k 0 = x) := ⟨_, rfl⟩
        rw [hxe.out] at hx e1 HSN
        obtain ⟨m, hm1⟩ : ∃ m, x % s.size = m := ⟨_, rfl⟩
        have hm0' : (x : Int) % (s.size : Int) = (m : Int) := by rw [← hm1]; simp
        have hml : m < s.size := by rw [← hm1]; exact Nat.mod_lt _ HH0.out
        have hmI : (m : Int) < (s.size : Int) := by omega
        have hlt' : (k : Int) < (N : Int) := by omega
        have hk0 : (0 : Int) ≤ (k : Int) := by omega
        rw [hm1] at HSN
        have c5 := B.out.b.at' m (by rw [HLB.out]; exact hml)
        have f5 := B.out.b.fz m (by rw [HLB.out]; exact hml)
        have B2 := Lib.hid (B.out.set (i := m) (by rw [HLB.out]; exact hml))
        rw [← HSN.out] at B2
        clear hm1 hb1
        go_wp2_with fail
        exact ⟨⟨k + 1, by omega, by go_num, B2⟩, by simp [nT]; omega⟩
      · obtain rfl : k = N := by omega
        have c0 := B.out.f.c0
        have B3 := B.out.b
        rw [List.take_of_length_le (by rw [hN.out]; exact Nat.le_refl _)] at B3
        have kb := B3.str s.size cp2 HLE.out
        have HB9 := Lib.hid B3.bel
        clear B B3 hlt
        go_wp2_with fail
        go_ret2
        refine ⟨?_, HB9.out⟩
        rw [HF.out]
        rfl
  · have hm0 := hm 4 e
    rw [e] at HF
    clear hm e hi1 F1 hlt BY HB0 F0 hll hat hpb
    go_enter Tryz.func124, Tryz.ntmps124
    go_upto_region 1 with (fail)
    rw [hW0.out]
    clear hW0
    go_upto_region 2 with (fail)
    rw [hW1.out, hbk.out, hcp.out]
    clear hW1 hbk hcp kc
    go_wp2_with fail
    clear c0 c1 c2
    go_loopw [34] (fun i wr => ∃ k : Nat, k ≤ N ∧ i = .int .i64 k ∧ Hid (BB w wr bk (blotL s.data.toList (pl.take k)) kd pos p N cap byt)) (fun i _ => N - (nT i).toNat)
    case atStart => exact ⟨0, Nat.zero_le _, rfl, BB0⟩
    case round =>
      clear BB0
      obtain ⟨k, hk, rfl, B⟩ := hrel
      by_cases hlt : k < N
      · obtain ⟨b, o, rfl, hb1, e1⟩ := u16_at (HAT.out.below B.out.b.bel) (show k < pl.length by rw [hN.out]; exact hlt)
        have hx := HPB.out k
        have HSN : Hid (blotL s.data.toList (pl.take (k + 1)) = (blotL s.data.toList (pl.take k)).set (pl.getD k 0 % s.size) 63) := by unfold Hid; rw [blotL_snoc _ _ _ (by rw [hN.out]; exact hlt), HLB.out k]
        obtain ⟨x, hxe⟩ : ∃ x, Hid (pl.getD k 0 = x) := ⟨_, rfl⟩
        rw [hxe.out] at hx e1 HSN
        obtain ⟨m, hm1⟩ : ∃ m, x % s.size = m := ⟨_, rfl⟩
        have hm0' : (x : Int) % (s.size : Int) = (m : Int) := by rw [← hm1]; simp
        have hml : m < s.size := by rw [← hm1]; exact Nat.mod_lt _ HH0.out
        have hmI : (m : Int) < (s.size : Int) := by omega
        have hlt' : (k : Int) < (N : Int) := by omega
        have hk0 : (0 : Int) ≤ (k : Int) := by omega
        rw [hm1] at HSN
        have c5 := B.out.b.at' m (by rw [HLB.out]; exact hml)
        have f5 := B.out.b.fz m (by rw [HLB.out]; exact hml)
        have B2 := Lib.hid (B.out.set (i := m) (by rw [HLB.out]; exact hml))
        rw [← HSN.out] at B2
        clear hm1 hb1
        go_wp2_with fail
        exact ⟨⟨k + 1, by omega, by go_num, B2⟩, by simp [nT]; omega⟩
      · obtain rfl : k = N := by omega
        have c0 := B.out.f.c0
        have B3 := B.out.b
        rw [List.take_of_length_le (by rw [hN.out]; exact Nat.le_refl _)] at B3
        have kb := (B3.take i).str i cp2 (by rw [List.length_take, HLE.out]; have := HIL.out; omega)
        have HB9 := Lib.hid B3.bel
        have hiS : (i : Int) ≤ (cp2 : Int) := by have := HIL.out; have := HGE.out; omega
        have hck : ¬ cp2 = i ∨ cp2 = i := (Decidable.em _).symm
        have hiC : (0 : Int) ≤ (i : Int) := by omega
        clear B B3 hlt
        go_wp2_with fail
        go_ret2
        refine ⟨?_, HB9.out⟩
        rw [HF.out]
        rfl
/-- What happens to a line. -/
theorem fated (s : ByteArray) (kd pos : Nat) (p : Option Addr) (cap : Nat) (pl : List Nat) (byt : UInt8) (w : World) (h0 : 0 < s.size) (h1 : s.size ≤ 1000000) (hk : kd ≤ 255) (hp : pos ≤ 65535)
    (hpl : pl.length ≤ 1000000) (hat : U16At w p pl) (hpb : ∀ k, pl.getD k 0 ≤ 65535) :
    Calls Tryz.prog 124 #[.string s, .agg #[.int .u8 (kd : Int), .int .u16 (pos : Int), .slice p pl.length cap, .int .u8 (byt.toNat : Int)]] w (fatP w s ⟨kd, pos, pl, byt⟩) := by
  have h7 : kd % 7 < 7 := Nat.mod_lt _ (by decide)
  by_cases e : kd % 7 = 3 ∨ kd % 7 = 4
  · exact fated_3 s kd pos p cap pl byt w h0 h1 hk hp hpl hat hpb e
  by_cases e : kd % 7 = 5 ∨ kd % 7 = 6
  · exact fated_5 s kd pos p cap pl byt w h0 h1 hk hp e
  · exact fated_0 s kd pos p cap pl byt w h0 h1 hk hp (by omega)
end Go.Proofs.YtmfhpddeclggfaaGreatDoor
