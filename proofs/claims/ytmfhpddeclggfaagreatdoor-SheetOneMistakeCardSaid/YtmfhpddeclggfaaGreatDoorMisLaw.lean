import Derived.Test.YtmfhpddeclggfaaGreatDoorBackLaw
import Derived.Test.YtmfhpddeclggfaaGreatDoorOm
import Derived.Lib.ConvBytes
import Derived.Laws.IdiomStrings
import Derived.WalkKit
import Derived.LoopTactic
import Derived.WalkSpells
import Derived.WalkLawsBesides
import Derived.Lib.Hide
import Derived.BigQuiet
import Derived.IntWalk
import Derived.Deep.DeepMust
import Derived.WalkSmall
import Derived.StillTailTactics
import Derived.Deep.RegionLaw
import Derived.Deep.QuietTactic
import Derived.Deep.Cut
import Derived.Deep.DeepCutAuto
namespace Go.Proofs.YtmfhpddeclggfaaGreatDoor
open Go.RowKit
theorem bw_frozen (w : World) (e : TypeId) (s : ByteArray) (j : Nat) (hj : j < s.size) : (Lib.bytesWorld w e s).frozen? ⟨w.heap.size, j, none⟩ = false := by
  have h1 := Lib.bytesWorld_at_new w e s
  have h2 : s.size ≤ (Lib.bytesCells w e s).size := by
    unfold Lib.bytesCells
    simp only [Array.size_append, Array.size_map]
    exact Nat.le_add_right _ _
  unfold World.frozen?
  simp only [h1]
  simp
  omega
theorem bw_at (w : World) (e : TypeId) (s : ByteArray) (j : Nat) (hj : j < s.size) : (Lib.bytesWorld w e s).cell? ⟨w.heap.size, j, none⟩ = some (.int .u8 (s.data.toList.getD j 0).toNat) := Lib.bytesWorld_cell w e s j hj
/-- A text's bytes, as they lie in a block of their own. -/
def BytesAt (W : World) (b : Nat) (l : List UInt8) : Prop := ∀ j, j < l.length → W.cell? ⟨b, j, none⟩ = some (.int .u8 (l.getD j 0).toNat)
theorem BytesAt.set {W : World} {b : Nat} {l : List UInt8} (h : BytesAt W b l) (i : Nat) (hi : i < l.length) (c : UInt8) : BytesAt (W.setCell ⟨b, i, none⟩ (.int .u8 (c.toNat : Int))) b (l.set i c) := by
  intro j hj
  rw [List.length_set] at hj
  by_cases e : i = j
  · subst e
    rw [World.cell?_setCell_same _ _ _ (h i hi)]
    simp [List.getD, hi]
  · rw [World.cell?_setCell_other _ _ _ _ (addr_ne e), h j hj]
    simp [List.getD, e]
theorem BytesAt.str {W : World} {b : Nat} {l : List UInt8} (h : BytesAt W b l) (n cap : Nat) (hn : l.length = n) : (convert 106 9 (.slice (some ⟨b, 0, none⟩) n cap)).run Tryz.prog W = .ok (.string (bs l)) W := by
  subst hn
  refine run_convert_bytes_back W 106 9 5 ⟨b, 0, none⟩ cap l Tryz.underlying106 Tryz.underlying5 Tryz.underlying9 (fun j hj => ?_)
  have := h j hj
  rw [List.getD, List.getElem?_eq_getElem hj] at this
  by_cases h0 : j = 0
  · subst h0; simpa [Addr.add] using this
  · simpa [Addr.add, h0] using this
set_option maxRecDepth 100000 in
set_option maxHeartbeats 4000000 in
theorem mis_big (a : Int) (cb : Int) (m : Int) (q : Option Addr) (c : Nat) (ws : List ByteArray) (w : World) (he : Env w) (hl : ws.length ≤ maxLen) (hz : ∀ j, (ws.getD j ByteArray.empty).size ≤ maxLen) (hp : StrsAt w q ws)
    (h : 4000 < wrap64 (sumL ws) ∨ 100 < ws.length) :
    Calls Tryz.prog 13 #[.agg #[.int .i64 m, .slice q ws.length c], .int .u16 a, .int .u8 cb] w fun e w' => e = .returned (.bool true) ∧ Below w.heap.size w w' := by
  have L0 := Lib.hid (LB.mk0 w m q ws.length c)
  have SZ := Lib.hid (size_any q c ws (w.alloc (.cells #[.int .i64 m, .slice q ws.length c] 39)) hl hz (hp.below (below_alloc1 _ _)))
  have SN := Lib.hid (sanity_any (w.alloc (.cells #[.int .i64 m, .slice q ws.length c] 39)) (he.next (below_alloc1 _ _)))
  obtain ⟨N, hN⟩ : ∃ N, ws.length = N := ⟨_, rfl⟩
  obtain ⟨t, ht⟩ : ∃ t, wrap64 (sumL ws) = t := ⟨_, rfl⟩
  rw [hN] at L0 SZ SN h hl ⊢
  rw [ht] at SZ h
  unfold maxLen at hl
  clear he hz hp hN ht
  by_cases h2 : 4000 < t
  · clear h
    go_enter Tryz.func13, Tryz.ntmps13
    go_wp2_with fail
    refine SZ.out.mono ?_
    rintro e w1 ⟨rfl, rfl⟩
    go_wp2_with fail
    refine SN.out.mono ?_
    rintro e w1 ⟨rfl, hb⟩
    have B := Lib.hid (L0.out.next hb).bel
    clear hb
    go_wp2_with fail
    go_ret
    exact ⟨rfl, B.out⟩
  · have h3 : 100 < (N : Int) := by omega
    clear h
    go_enter Tryz.func13, Tryz.ntmps13
    go_wp2_with fail
    refine SZ.out.mono ?_
    rintro e w1 ⟨rfl, rfl⟩
    go_wp2_with fail
    refine SN.out.mono ?_
    rintro e w1 ⟨rfl, hb⟩
    have B := Lib.hid (L0.out.next hb).bel
    clear hb
    go_wp2_with fail
    go_ret
    exact ⟨rfl, B.out⟩
set_option maxRecDepth 100000 in
set_option maxHeartbeats 8000000 in
theorem mis_small (a : Nat) (cb : UInt8) (m : Int) (q : Option Addr) (c : Nat) (ws : List ByteArray) (w : World) (ha : a ≤ 65535) (he : Env w) (hl : ws.length ≤ maxLen) (hz : ∀ j, (ws.getD j ByteArray.empty).size ≤ maxLen) (hp : StrsAt w q ws)
    (h2 : ¬ 4000 < wrap64 (sumL ws)) (h3 : ¬ 100 < ws.length) :
    Calls Tryz.prog 13 #[.agg #[.int .i64 m, .slice q ws.length c], .int .u16 (a : Int), .int .u8 (cb.toNat : Int)] w fun e w' => e = .returned (.bool true) ∧ Below w.heap.size w w' := by
  have L0 := Lib.hid (LB.mk0 w m q ws.length c)
  have HE := Lib.hid he
  have SZ := Lib.hid (size_any q c ws (w.alloc (.cells #[.int .i64 m, .slice q ws.length c] 39)) hl hz (hp.below (below_alloc1 _ _)))
  obtain ⟨x2, e2, P6, I6⟩ := wr_pair2 m ws
  have C8 := sWrite m q c ws (w.alloc (.cells #[.int .i64 m, .slice q ws.length c] 39)) hl hz (hp.below L0.out.bel) (he.next L0.out.bel)
  rw [P6.out] at C8
  have D8 := Lib.hid C8
  obtain ⟨N, hN⟩ : ∃ N, ws.length = N := ⟨_, rfl⟩
  obtain ⟨t, ht⟩ : ∃ t, wrap64 (sumL ws) = t := ⟨_, rfl⟩
  rw [hN] at L0 SZ D8 h3 hl ⊢
  rw [ht] at SZ h2
  have hN3 : ¬ 100 < (N : Int) := by omega
  clear he hz hp ht hl h3 hN C8 P6
  by_cases he2 : ¬ e2 = 0
  · have hb1 : ((e2 : Int) == 0) = false := by rw [beq_eq_false_iff_ne]; exact he2
    have hb2 : ((e2 : Int) != 0) = true := by simp [he2]
    clear he2 I6
    go_enter Tryz.func13, Tryz.ntmps13
    go_wp2_with fail
    refine SZ.out.mono ?_
    rintro e w1 ⟨rfl, rfl⟩
    go_wp2_with fail
    refine D8.out.mono ?_
    rintro e w2 ⟨rfl, hb⟩
    have L1 := Lib.hid (L0.out.next hb)
    have SN := Lib.hid (sanity_any w2 (HE.out.next L1.out.bel))
    clear hb D8 SZ
    go_wp2_with fail
    refine SN.out.mono ?_
    rintro e w3 ⟨rfl, hb⟩
    have B := Lib.hid (L1.out.next hb).bel
    clear hb
    go_wp2_with fail
    go_ret
    exact ⟨rfl, B.out⟩
  · have he3 : e2 = 0 := Decidable.not_not.1 he2
    subst he3
    obtain ⟨hle, hx2⟩ := I6.out rfl
    subst hx2
    have K := rl_of hle
    have h5 : 5 ≤ (bs (lineT m ws)).size := by rw [bs_size]; exact (lineT_lined m ws).len
    obtain ⟨y, hy⟩ : ∃ y, bs (lineT m ws) = y := ⟨_, rfl⟩
    rw [hy] at K h5 D8
    clear I6 hle hy he2
    have h6 : y.size ≤ 1000000 := K.z
    have hy2 : ¬ (y.size : Int) < 2 := by omega
    have kc := fun W : World => Lib.run_convert_string_bytes (P := Tryz.prog) W 9 106 5 y Tryz.underlying9 Tryz.underlying106 Tryz.underlying5
    go_enter Tryz.func13, Tryz.ntmps13
    go_wp2_with fail
    refine SZ.out.mono ?_
    rintro e w1 ⟨rfl, rfl⟩
    go_wp2_with fail
    refine D8.out.mono ?_
    rintro e w2 ⟨rfl, hb⟩
    have L1 := Lib.hid (L0.out.next hb)
    clear hb D8 SZ
    go_upto_region 8 with (fail)
    have hi0 : (a : Int) % (y.size : Int) = ((a % y.size : Nat) : Int) := by simp
    obtain ⟨i, hi1⟩ : ∃ i, a % y.size = i := ⟨_, rfl⟩
    have hil : i < y.size := by rw [← hi1]; exact Nat.mod_lt _ (by omega)
    rw [hi0, hi1]
    have HIL := Lib.hid hil
    have BA : BytesAt (Lib.bytesWorld w2 5 y) w2.heap.size y.data.toList := fun j hj => bw_at w2 5 y j (by simpa using hj)
    have BS := Lib.hid (BA.set i (by simpa using hil) cb)
    have c5 := BA i (by simpa using hil)
    have f5 := bw_frozen w2 5 y i hil
    obtain ⟨W3, hW3⟩ : ∃ W3, Lib.bytesWorld w2 5 y = W3 := ⟨_, rfl⟩
    have HB3 : Hid (Below w.heap.size w W3) := by rw [← hW3]; exact L1.out.bel.trans (Joins.below_bytesWorld _ _ _ _ (Nat.le_of_lt L1.out.lt))
    have hlt3 : Hid (w.heap.size ≤ w2.heap.size) := Nat.le_of_lt L1.out.lt
    obtain ⟨bk, hbk⟩ : ∃ bk, w2.heap.size = bk := ⟨_, rfl⟩
    rw [hW3, hbk] at BS c5 f5
    rw [hbk] at hlt3
    rw [hW3, hbk]
    obtain ⟨cap, hcap⟩ : ∃ cap, grownCap w2 y.size 0 5 = cap := ⟨_, rfl⟩
    rw [hcap]
    clear hi0 hi1 hW3 hbk hcap BA L1
    have kb := BS.out.str y.size cap (by simp)
    obtain ⟨z1, hz1⟩ : ∃ z1, bs (y.data.toList.set i cb) = z1 := ⟨_, rfl⟩
    have hzs : Hid (z1.size ≤ 1000000) := by rw [← hz1, Hid, bs_size, List.length_set]; simpa using h6
    have hcell : Hid (y.data.toList[i]? = some y[i]) := at_list y i hil
    have hone : Hid (readErr z1 = 0 ↔ y[i] = cb) := by
      rw [← hz1]
      have h9 := one_iff K.r i cb (by simpa using hil)
      have h10 : y.data.toList[i]'(by simpa using hil) = y[i] := by
        have := hcell.out
        rw [List.getElem?_eq_getElem (by simpa using hil)] at this
        exact Option.some.inj this
      rw [h10] at h9
      exact h9
    rw [hz1] at kb
    have HB4 : Hid (Below w.heap.size w (W3.setCell ⟨bk, i, none⟩ (.int .u8 (cb.toNat : Int)))) := HB3.out.setCell (p := ⟨bk, i, none⟩) hlt3.out _
    have C9 := sRead z1 (W3.setCell ⟨bk, i, none⟩ (.int .u8 (cb.toNat : Int))) hzs.out (HE.out.next HB4.out)
    obtain ⟨er, her⟩ : ∃ er, readErr z1 = er := ⟨_, rfl⟩
    rw [her] at C9 hone
    have D9 : Hid (Calls Tryz.prog 33 #[.string z1] (W3.setCell ⟨bk, i, none⟩ (.int .u8 (cb.toNat : Int))) fun e w' => ∃ (n' : Int) (p' : Option Addr) (k' c' : Nat), e = .returned (.tuple #[.agg #[.int .i64 n', .slice p' k' c'], .int .i64 er]) ∧ Below w.heap.size w w') := by
      refine C9.mono ?_
      rintro e w' h
      obtain ⟨hb, n', p', k', c', rfl⟩ := rd_any h
      exact ⟨n', p', k', c', rfl, HB4.out.trans (hb.mono HB4.out.size)⟩
    clear C9 her hz1 BS
    go_wp2_with fail
    refine D9.out.mono ?_
    rintro e w5 ⟨n', p', k', c', rfl, hb⟩
    have HB5 : Hid (Below w.heap.size w (w5.alloc (.cells #[.int .i64 n', .slice p' k' c'] 39))) := hb.alloc hb.size _
    clear D9 hb HB4 HB3 kb c5 f5
    go_upto_region 10 with (fail)
    go_cut [6, 71] from 10 (fun s6 s71 wx => s6 = .bool false ∧ s71 = .bool false ∧ Hid (Below w.heap.size w wx))
    case first =>
      by_cases h : y[i] = cb
      · obtain rfl := hone.out.2 h
        have h3 : ((y[i].toNat : Int) == (cb.toNat : Int)) = true := by rw [h]; simp
        have HH := Lib.hid h3
        clear hone hcell h h3
        go_wp2_with fail
        go_meet
        case rel => exact ⟨rfl, congrArg (fun b => Value.bool (!b)) HH.out, HB5⟩
      · have h1 : ¬ er = 0 := fun e => h (hone.out.1 e)
        have h2 : ((er : Int) == 0) = false := by rw [beq_eq_false_iff_ne]; exact h1
        have h3 : ((y[i].toNat : Int) == (cb.toNat : Int)) = false := by rw [beq_eq_false_iff_ne]; exact fun e => h (u8_eq (by omega))
        have HH := Lib.hid h3
        clear hone hcell h h1 h3
        go_wp2_with fail
        go_meet
        case rel => exact ⟨rfl, congrArg Value.bool HH.out, HB5⟩
    case rest =>
      obtain ⟨rfl, rfl, HB6⟩ := hcut
      clear HB5 hone hcell hzs
      go_wp2_with fail
      have hk0 : (a : Int) % ((y.size : Int) - 1) = ((a % (y.size - 1) : Nat) : Int) := by
        rw [show ((y.size : Int) - 1) = ((y.size - 1 : Nat) : Int) by omega]; simp
      obtain ⟨k, hk1⟩ : ∃ k, a % (y.size - 1) = k := ⟨_, rfl⟩
      have hkl : k + 1 < y.size := by have := Nat.mod_lt a (show 0 < y.size - 1 by omega); omega
      rw [hk0, hk1]
      have BA : BytesAt (Lib.bytesWorld wc 5 y) wc.heap.size y.data.toList := fun j hj => bw_at wc 5 y j (by simpa using hj)
      have hw1 : Hid (w.heap.size ≤ wc.heap.size) := HB6.out.size
      have HB7 : Hid (Below w.heap.size w (Lib.bytesWorld wc 5 y)) := HB6.out.trans (Joins.below_bytesWorld _ _ _ _ hw1.out)
      have f6 := bw_frozen wc 5 y k (by omega)
      have f7 := bw_frozen wc 5 y (k + 1) hkl
      obtain ⟨W4, hW4⟩ : ∃ W4, Lib.bytesWorld wc 5 y = W4 := ⟨_, rfl⟩
      obtain ⟨bk, hbk⟩ : ∃ bk, wc.heap.size = bk := ⟨_, rfl⟩
      obtain ⟨cap, hcap⟩ : ∃ cap, grownCap wc y.size 0 5 = cap := ⟨_, rfl⟩
      rw [hW4] at BA HB7 f6 f7
      rw [hbk] at BA f6 f7 hw1
      rw [hW4, hbk, hcap]
      have c6 := BA k (by simp; omega)
      have c7 := BA (k + 1) (by simpa using hkl)
      have HBA := Lib.hid BA
      clear hk0 hk1 hW4 hbk hcap BA HB6
      have g1 : IntKind.i64.wrap ((k : Int) + 1) = (k : Int) + 1 := by rw [IntKind.wrap_i64]; omega
      have g2 : (0 : Int) ≤ (k : Int) + 1 := by omega
      have g3 : ((k : Int) + 1).toNat = k + 1 := by omega
      have g4 : (k : Int) + 1 < (y.size : Int) := by omega
      have g5 : (k : Int) < (y.size : Int) := by omega
      have g6 : (0 : Int) ≤ (k : Int) := by omega
      have hkl0 : k < y.size := by omega
      have e0 : y.data.toList.getD k 0 = y[k] := by rw [List.getD, at_list y k hkl0]; rfl
      have e1 : y.data.toList.getD (k + 1) 0 = y[k + 1] := by rw [List.getD, at_list y (k + 1) hkl]; rfl
      have hsw : (y.data.toList.set k y[k + 1]).set (k + 1) y[k] = swp y.data.toList k := by unfold swp; rw [e0, e1]
      have htw := two_iff K.r k (by simpa using hkl)
      rw [e0, e1] at htw
      have BS : BytesAt ((W4.setCell ⟨bk, k, none⟩ (.int .u8 (y[k + 1].toNat : Int))).setCell ⟨bk, k + 1, none⟩ (.int .u8 (y[k].toNat : Int))) bk (swp y.data.toList k) := by
        rw [← hsw]
        exact (HBA.out.set k (by simpa using hkl0) y[k + 1]).set (k + 1) (by simpa using hkl) y[k]
      have BD : BytesAt ((W4.setCell ⟨bk, k, none⟩ (.int .u8 (y[k + 1].toNat : Int))).setCell ⟨bk, k + 1, none⟩ (.int .u8 (y[k].toNat : Int))).drew bk (swp y.data.toList k) := BS
      have kb := BD.str y.size cap (by simp [swp])
      obtain ⟨z2, hz2⟩ : ∃ z2, bs (swp y.data.toList k) = z2 := ⟨_, rfl⟩
      have hzs : Hid (z2.size ≤ 1000000) := by rw [← hz2, Hid, bs_size, swp, List.length_set, List.length_set]; simpa using h6
      rw [hz2] at kb htw
      have HB8 : Hid (Below w.heap.size w ((W4.setCell ⟨bk, k, none⟩ (.int .u8 (y[k + 1].toNat : Int))).setCell ⟨bk, k + 1, none⟩ (.int .u8 (y[k].toNat : Int))).drew) := ((HB7.out.setCell (p := ⟨bk, k, none⟩) hw1.out _).setCell (p := ⟨bk, k + 1, none⟩) hw1.out _).drew
      have C9 := sRead z2 ((W4.setCell ⟨bk, k, none⟩ (.int .u8 (y[k + 1].toNat : Int))).setCell ⟨bk, k + 1, none⟩ (.int .u8 (y[k].toNat : Int))).drew hzs.out (HE.out.next HB8.out)
      obtain ⟨er2, her⟩ : ∃ er, readErr z2 = er := ⟨_, rfl⟩
      rw [her] at C9 htw
      have htwo := Lib.hid htw
      have D9 : Hid (Calls Tryz.prog 33 #[.string z2] ((W4.setCell ⟨bk, k, none⟩ (.int .u8 (y[k + 1].toNat : Int))).setCell ⟨bk, k + 1, none⟩ (.int .u8 (y[k].toNat : Int))).drew fun e w' => ∃ (n' : Int) (p' : Option Addr) (k' c' : Nat), e = .returned (.tuple #[.agg #[.int .i64 n', .slice p' k' c'], .int .i64 er2]) ∧ Below w.heap.size w w') := by
        refine C9.mono ?_
        rintro e w' h
        obtain ⟨hb, n', p', k', c', rfl⟩ := rd_any h
        exact ⟨n', p', k', c', rfl, HB8.out.trans (hb.mono HB8.out.size)⟩
      clear C9 her hz2 BS BD htw hsw e0 e1 HBA
      go_region
      go_wp2_with fail
      refine D9.out.mono ?_
      rintro e w6 ⟨n', p', k', c', rfl, hb⟩
      have HB9 : Hid (Below w.heap.size w (w6.alloc (.cells #[.int .i64 n', .slice p' k' c'] 39))) := hb.alloc hb.size _
      clear D9 hb HB7 HB8 kb c6 c7 f6 f7
      go_upto_region 16 with (fail)
      go_cut [6, 110] from 10 (fun s6 s110 wx => s6 = .bool false ∧ s110 = .bool false ∧ Hid (Below w.heap.size w wx))
      case first =>
        by_cases h : y[k] = y[k + 1]
        · obtain rfl := htwo.out.2 h
          have h3 : ((y[k].toNat : Int) == (y[k + 1].toNat : Int)) = true := by rw [h]; simp
          have HH := Lib.hid h3
          clear htwo h h3
          go_quiet (fail)
          go_wp2_with fail
          go_meet
          case rel => first | exact ⟨rfl, rfl, below_drewN HB9.out _⟩ | exact ⟨rfl, congrArg (fun b => Value.bool (!b)) HH.out, below_drewN HB9.out _⟩
        · have h1 : ¬ er2 = 0 := fun e => h (htwo.out.1 e)
          have h2 : ((er2 : Int) == 0) = false := by rw [beq_eq_false_iff_ne]; exact h1
          have h3 : ((y[k].toNat : Int) == (y[k + 1].toNat : Int)) = false := by rw [beq_eq_false_iff_ne]; exact fun e => h (u8_eq (by omega))
          have HH := Lib.hid h3
          clear htwo h h1 h3
          go_quiet (fail)
          go_wp2_with fail
          go_meet
          case rel => first | exact ⟨rfl, rfl, below_drewN HB9.out _⟩ | exact ⟨rfl, congrArg Value.bool HH.out, below_drewN HB9.out _⟩
      case rest =>
        obtain ⟨rfl, rfl, HB10⟩ := hcut
        have hc3 := cut_no K.r i (by simpa using HIL.out)
        obtain ⟨z3, hz3⟩ : ∃ z3, y.extract 0 i = z3 := ⟨_, rfl⟩
        have hz3s : z3.size ≤ 1000000 := by rw [← hz3, ByteArray.size_extract]; omega
        rw [hz3] at hc3
        have C9 := sRead z3 wc hz3s (HE.out.next HB10.out)
        obtain ⟨er3, her⟩ : ∃ er, readErr z3 = er := ⟨_, rfl⟩
        rw [her] at C9 hc3
        have h9 : ((er3 : Int) == 0) = false := by rw [beq_eq_false_iff_ne]; exact hc3
        have D9 : Hid (Calls Tryz.prog 33 #[.string z3] wc fun e w' => ∃ (n' : Int) (p' : Option Addr) (k' c' : Nat), e = .returned (.tuple #[.agg #[.int .i64 n', .slice p' k' c'], .int .i64 er3]) ∧ Below w.heap.size w w') := by
          refine C9.mono ?_
          rintro e w' h
          obtain ⟨hb, n', p', k', c', rfl⟩ := rd_any h
          exact ⟨n', p', k', c', rfl, HB10.out.trans (hb.mono HB10.out.size)⟩
        have HZ3 := Lib.hid hz3
        clear C9 hz3s hc3 her hz3 htwo HB9
        go_wp2_with fail
        rw [HZ3.out]
        refine D9.out.mono ?_
        rintro e w7 ⟨n', p', k', c', rfl, hb⟩
        have HB11 : Hid (Below w.heap.size w (w7.alloc (.cells #[.int .i64 n', .slice p' k' c'] 39))) := hb.alloc hb.size _
        have SN := Lib.hid (sanity_any (w7.alloc (.cells #[.int .i64 n', .slice p' k' c'] 39)) (HE.out.next HB11.out))
        clear D9 hb
        go_wp2_with fail
        refine SN.out.mono ?_
        rintro e w8 ⟨rfl, hb⟩
        have HB12 : Hid (Below w.heap.size w w8) := HB11.out.trans (hb.mono HB11.out.size)
        clear hb
        go_wp2_with fail
        go_ret
        exact ⟨rfl, HB12.out⟩
theorem sheetOneMistake_law (m : Int) (q : Option Addr) (c : Nat) (ws : List ByteArray) (a : Int) (b : Int) (w : World) (he : Env w) (_hm : -9223372036854775808 ≤ m ∧ m ≤ 9223372036854775807) (hl : ws.length ≤ maxLen) (hz : ∀ j, (ws.getD j ByteArray.empty).size ≤ maxLen) (hp : StrsAt w q ws) (ha : 0 ≤ a ∧ a ≤ 65535) (hb : 0 ≤ b ∧ b ≤ 255) :
    Calls Tryz.prog 13 #[.agg #[.int .i64 m, .slice q ws.length c], .int .u16 a, .int .u8 b] w fun e w' => e = .returned (.bool true) ∧ Below w.heap.size w w' := by
  by_cases h : 4000 < wrap64 (sumL ws) ∨ 100 < ws.length
  · exact mis_big a b m q c ws w he hl hz hp h
  · simp only [not_or] at h
    have h1 : a = ((a.toNat : Nat) : Int) := by omega
    have h2 : b = ((UInt8.ofNat b.toNat).toNat : Int) := by rw [UInt8.toNat_ofNat']; omega
    rw [h1, h2]
    exact mis_small a.toNat (UInt8.ofNat b.toNat) m q c ws w (by omega) he hl hz hp h.1 h.2
end Go.Proofs.YtmfhpddeclggfaaGreatDoor
