import Derived.Test.YtmfhpddeclggfaaGreatDoorVIfa
import Derived.Maps.Own
import Derived.Maps.OwnOps
import Derived.Maps.OwnSet
import Derived.Lib.SlKeysI
import Derived.RangeFuncNested
import Derived.RangeFuncBound
import Derived.RangeFuncCalls
import Derived.RangeFuncLeaves
import Derived.RangeFuncBox
import Derived.Shelf.Abstract
import Derived.Shelf.RegionOpen
import Derived.OwnWalkIn
import Derived.TacticsInMore
import Derived.LoopNIn
import Derived.LoopIn
import Derived.Maps.AppendAt
import Derived.Maps.OwnIn
import Derived.RegionIn
import Derived.BigRegionIn
import Derived.Stop.RegionWithIn
import Derived.WalkKit
import Derived.LoopTactic
import Derived.WalkSpells
import Derived.WalkLawsBesides
import Derived.Lib.Hide
import Derived.BigQuiet
import Derived.IntWalk
import Derived.Deep.DeepMust
import Derived.WalkSmall
import Derived.StillTailTactics
import Derived.Deep.RegionLaw
import Derived.Deep.QuietTactic
import Derived.Deep.Cut
import Derived.Deep.DeepCutAuto
import Derived.Deep.LoopGhost
import Derived.Laws.AppendOwn
import Derived.Deep.RegionHeld3
import Derived.Deep.AppendLies
import Derived.Test.YtmfhpddeclggfaaGreatDoorIfk
namespace Go.Proofs.YtmfhpddeclggfaaGreatDoor
open Go.RowKit
/-! The restored line of a number: the walk. -/
def nOf : Value → Int | .int _ q => q | _ => 0
/-- A reading as it is told. -/
def kG (f : FL × List Int) : FV := (f.1.g.n, f.1.g.ws, f.2, f.1.rs)
/-- The lengths in their order. -/
def lenS (l : List (Int × ByteArray)) : List Int := (lens l).mergeSort leI
/-- What scraps show for some lengths. -/
def rsF (l : List (Int × ByteArray)) (ks : List Int) : List FV := ks.flatMap fun z => ov1 (ofL l z.toNat)
/-- The restored line of a number, if there is just one. -/
def rsD (l : List (Int × ByteArray)) : List FV := if 1 < (rsF l (lenS l)).length then [] else rsF l (lenS l)
theorem rsF_snoc (l : List (Int × ByteArray)) (ks : List Int) (k : Nat) (h : k < ks.length) : rsF l (ks.take (k + 1)) = rsF l (ks.take k) ++ ov1 (ofL l (ks.getD k 0).toNat) := by
  unfold rsF
  rw [List.take_succ_eq_append_getElem h, List.flatMap_append, List.getD, List.getElem?_eq_getElem h]
  simp
theorem ov1_len (l : List (Int × ByteArray)) : (ov1 l).length ≤ 1 := by unfold ov1; split <;> simp
theorem rsF_len (l : List (Int × ByteArray)) : ∀ ks : List Int, (rsF l ks).length ≤ ks.length
  | [] => Nat.le_refl _
  | z :: ks => by
    have h1 := rsF_len l ks
    have h2 := ov1_len (ofL l z.toNat)
    have e : rsF l (z :: ks) = ov1 (ofL l z.toNat) ++ rsF l ks := by simp [rsF]
    rw [e, List.length_append, List.length_cons]; omega
theorem lens_len (l : List (Int × ByteArray)) : (lens l).length ≤ l.length := by
  have : ∀ ks : List Int, (dd ks).length ≤ ks.length := fun ks => by
    induction ks with
    | nil => exact Nat.le_refl _
    | cons x ks ih => rw [dd]; split <;> simp <;> omega
  have := this (l.map fun x => ((x.2.size : Nat) : Int))
  rwa [List.length_map] at this
theorem lenS_len (l : List (Int × ByteArray)) : (lenS l).length ≤ l.length := by
  rw [lenS, List.length_mergeSort]; exact lens_len l
theorem lenS_mem (l : List (Int × ByteArray)) (z : Int) (h : z ∈ lenS l) : ∃ x ∈ l, ((x.2.size : Nat) : Int) = z := by
  have := (List.mergeSort_perm (lens l) leI).mem_iff.1 h
  simpa [lens, dd_mem] using this
theorem RT.base {w w' W : World} {vo vs : Value} {fs : List (FL × List Int)} {seen : List Int} (h : RT w' W vo vs fs seen) (hb : Below w.heap.size w w') : RT w W vo vs fs seen :=
  ⟨hb.trans (h.bel.mono hb.size), ownsRow_base h.ro hb.size, ownsRow_base h.rs hb.size, h.ne, h.at'⟩
theorem own_slice2 {W : World} {B n k : Nat} {e : TypeId} {v : Value} {xs : List Value} (h : W.ownsRow B e k v n xs) : ∃ q c, v = .slice q n c := by
  rcases h.2 with ⟨e, h0⟩ | ⟨g, cp, cur, e, _⟩
  · exact ⟨_, _, by rw [h0]; exact e⟩
  · exact ⟨_, _, e⟩
theorem mp_size {W : World} {M n : Nat} {D : DataW Value} (h : W.ownsMap Tryz.prog 3 RH M n D) : Maps.size D ≤ n := by
  obtain ⟨es, clock, hb, F, hs, rfl⟩ := h
  rw [Maps.size_eq, length_sorted]
  simpa using hs
theorem rt_new (W : World) (bk : Nat) (n : Int) (pw pc : Option Addr) (ws : List ByteArray) (zs : List Int) (cw cc L Z : Nat) (hL : ws.length = L) (hZ : zs.length = Z) (hb : W.heap.size = bk) : ∀ j u, (flatF [((⟨⟨n, pw, cw, ws⟩, pc, zs.length, cc, true⟩ : FL), zs)])[j]? = some u → (W.alloc (.cells #[.int .i64 n, .slice pw L cw, .slice pc Z cc, .bool true] 87)).cell? ((⟨bk, 0, none⟩ : Addr).add j) = some u := by
  subst hb; subst hL; subst hZ
  exact cells_new W #[.int .i64 n, .slice pw ws.length cw, .slice pc zs.length cc, .bool true] 87
set_option maxRecDepth 100000 in
set_option maxHeartbeats 4000000 in
theorem sRestored (p : Option Addr) (cap : Nat) (l : List (Int × ByteArray)) (w : World) (hl : l.length ≤ 1000000) (hsz : ∀ j, (l.getD j default).2.size ≤ 1000000) (hp : PlAt w p l) (he : Env w) :
    Calls Tryz.prog 167 #[.slice p l.length cap] w fun e w' => ∃ vo fs, e = .returned vo ∧ RT w w' vo (.slice none 0 0) fs [] ∧ fs.map kG = rsD l ∧ ∀ f ∈ fs, PFrom w.heap.size f.1.g.p ∧ PFrom w.heap.size f.1.cp := by
  have HP := Lib.hid hp
  have HSZ := Lib.hid hsz
  have HE := Lib.hid he
  have hmm := @run_makeMap Tryz.prog
  obtain ⟨N, hN⟩ : ∃ N, Hid (l.length = N) := ⟨_, rfl⟩
  rw [hN.out] at hl ⊢
  have B0 := Lib.hid (ByL.start w)
  have HB0 : Hid (Below w.heap.size w (w.alloc (.map #[] 0))) := below_alloc1 _ _
  clear hp hsz he
  go_enter Tryz.func167, Tryz.ntmps167
  go_wp2_with fail
  go_loopw [14] (fun i wr => ∃ (k : Nat) (D : DataW Value) (V : Nat → Value), k ≤ N ∧ i = .int .i64 k ∧ Hid (ByL wr (w.heap.size + 1) w.heap.size D V (l.take k)) ∧ Hid (Below w.heap.size w wr)) (fun i _ => N - (nOf i).toNat)
  case atStart => exact ⟨0, _, _, Nat.zero_le _, rfl, by rw [List.take_zero]; exact B0, HB0⟩
  case round =>
    clear B0 HB0 hmm
    obtain ⟨k, D, V, hk, rfl, BL, HB⟩ := hrel
    by_cases hlt : k < N
    · have hkl : k < l.length := by rw [hN.out]; exact hlt
      obtain ⟨b, o, rfl, hbl, c0, c1⟩ := pl_at HP.out hkl
      have c0 := (HB.out.cell (p := ⟨b, o + k * 2, none⟩) hbl).trans c0
      have c1 := (HB.out.cell (p := ⟨b, o + k * 2 + 1, none⟩) hbl).trans c1
      have hxs := HSZ.out k
      have HT : Hid (l.take (k + 1) = l.take k ++ [l.getD k default]) := by unfold Hid; rw [List.take_succ_eq_append_getElem hkl, List.getD, List.getElem?_eq_getElem hkl]; rfl
      obtain ⟨⟨i, x⟩, hx⟩ : ∃ x, l.getD k default = x := ⟨_, rfl⟩
      rw [hx] at c0 c1 HT hxs
      obtain ⟨lk, hlk⟩ : ∃ lk, Hid (l.take k = lk) := ⟨_, rfl⟩
      have HLK : Hid (lk.length = k) := by rw [← hlk.out, List.length_take]; unfold Hid; omega
      rw [hlk.out] at BL HT
      dsimp only at c0 c1 hxs
      have y0 : (wr.alloc (.cells #[.int .i64 i, .string x] 260)).cell? ⟨wr.heap.size, 0, none⟩ = some (.int .i64 i) := nw_at wr _ 260 0 _ rfl
      have y1 : (wr.alloc (.cells #[.int .i64 i, .string x] 260)).cell? ⟨wr.heap.size, 1, none⟩ = some (.string x) := nw_at wr _ 260 1 _ rfl
      have BL1 := Lib.hid (BL.out.below (below_alloc1 wr (.cells #[.int .i64 i, .string x] 260)))
      have HB1 : Hid (Below w.heap.size w (wr.alloc (.cells #[.int .i64 i, .string x] 260))) := HB.out.alloc HB.out.size _
      have HAW : Hid (∀ z, (V z).ownBlock ≠ some wr.heap.size) := fun z e => by have := ((BL.out.row z).lt _ e).2; omega
      have HMW : Hid (w.heap.size < wr.heap.size) := BL.out.mp.lt
      have HLT : Hid (wr.heap.size < (wr.alloc (.cells #[.int .i64 i, .string x] 260)).heap.size) := by unfold Hid; simp
      obtain ⟨w1, hw1⟩ : ∃ w1, Hid (wr.alloc (.cells #[.int .i64 i, .string x] 260) = w1) := ⟨_, rfl⟩
      rw [hw1.out] at y0 y1 BL1 HB1 HLT
      have hlt' : (k : Int) < (N : Int) := by omega
      have hk0 : (0 : Int) ≤ (k : Int) := by omega
      clear hx hbl BL HB
      go_wp2_with fail
      rw [hw1.out]
      have hO := BL1.out.row x.size
      have hlkp := fun X (h : w1.grownBy X none) => run_lookI (BL1.out.mp.kept h (by simp)) x.size hxs (BL1.out.at' x.size)
      have hl1 := hlkp w1.drew (grown_dr w1)
      have hl2 := hlkp (w1.alloc (.cells #[.int .i64 i, .string x] 260)).drew (grown_tr (grown_al _ _) (grown_dr _))
      have HLN : Hid ((ofL lk x.size).length ≤ 1000000) := by have := List.length_filter_le (fun y : Int × ByteArray => y.2.size == x.size) lk; have := HLK.out; unfold Hid ofL; omega
      have aM : some w.heap.size ≠ (V x.size).ownBlock := fun e => by have := (hO.lt _ e.symm).1; omega
      have aw : (V x.size).ownBlock ≠ some wr.heap.size := fun e => by
        have h5 := HAW.out x.size
        rw [e] at h5
        exact h5 rfl
      obtain ⟨v0, hv0⟩ : ∃ v0, Hid (V x.size = v0) := ⟨_, rfl⟩
      obtain ⟨xs0, hxs0⟩ : ∃ xs0, Hid (cellsP (ofL lk x.size) = xs0) := ⟨_, rfl⟩
      obtain ⟨m0, hm0⟩ : ∃ m0, Hid ((ofL lk x.size).length = m0) := ⟨_, rfl⟩
      rw [hv0.out] at hl1 hl2 aM aw
      rw [hv0.out, hxs0.out, hm0.out] at hO
      rw [hm0.out] at HLN
      obtain ⟨i0, hi, hz0, hz1, hz2⟩ := info_parts inf260
      have HLm : Hid (m0 + 1 ≤ maxLen) := by have := HLN.out; unfold Hid maxLen; omega
      have HLb : Hid ((m0 + 1) * 24 ≤ 140737488355328) := by have := HLN.out; unfold Hid; omega
      have HBs : Hid (w.heap.size + 1 ≤ w1.heap.size) := by have := BL1.out.mp.lt; unfold Hid; omega
      have hlt1 := HLT.out
      have HKM : Hid (k + 1 < maxLen) := by unfold Hid maxLen; omega
      have hwM : some wr.heap.size ≠ some w.heap.size := fun e => by have := HMW.out; have := Option.some.inj e; omega
      clear hlkp
      go_region_held3 (fun w' => w'.cell? ⟨wr.heap.size, 0, none⟩ = some (.int .i64 i) ∧ w'.cell? ⟨wr.heap.size, 1, none⟩ = some (.string x))
        (first
          | go_keep
          | (go_split_ands
             refine ⟨?_, ?_⟩
             · (first | (rw [hgrow.cell_far _ (by simp; omega) (Ne.symm aw)]; assumption) | exact hg8.cell (by assumption) hwM)
             · (first | (rw [hgrow.cell_far _ (by simp; omega) (Ne.symm aw)]; assumption) | exact hg8.cell (by assumption) hwM)))
        ((refine step_append_lies _ (by rfl) _ _ _ (by rfl) (w.heap.size + 1) 260 i0 _ 2 24 Tryz.underlying209 hi hz0 hz1 hz2 rfl (by omega) v0 m0 xs0 (by rfl) ((hO.alloc _).drew)
            ⟨w1.heap.size, 0, none⟩ 1 1 [.int .i64 i, .string x] (by rfl) (by rfl) (World.news_of_block (cs := #[.int .i64 i, .string x]) (t := 260) (fr := (0, 0)) (heap_alloc_new w1 _)) (by simp [Value.oneCell'])
            (by omega) HLm.out HLb.out (by have h5 := HBs.out; simp; omega) (w1.heap.size + 1) (by simp) ?_; intro gg cap w4 hown1 hgrow hat hlt4; obtain ⟨W8, hr8, hm8, hg8⟩ := run_updI ((BL1.out.mp.kept (grown_tr (grown_al w1 (.cells #[.int .i64 i, .string x] 260)) (grown_dr _)) (by simp)).kept hgrow aM) (by rw [HLK.out]; have := HKM.out; omega) x.size hxs (.slice (some ⟨gg, 0, none⟩) (m0 + 1) cap)))
      all_goals
        have BL8 := Lib.hid (ByL.next (x := (i, x)) (v' := .slice (some ⟨gg, 0, none⟩) (m0 + 1) cap) (BL1.out.kept (grown_tr (grown_al w1 (.cells #[.int .i64 i, .string x] 260)) (grown_dr _)) (by simp) (fun z => by cases (V z).ownBlock <;> simp)) (by rw [hxs0.out, hm0.out]; exact hown1) (by rw [hv0.out]; exact hgrow) (by rw [hv0.out]; exact hat.elim (fun h => .inr ⟨by rw [h]; rfl, by rw [h]; simp⟩) (fun h => .inl (by rw [h]; show some _ = some (World.alloc _ _).heap.size; rw [World.size_alloc]))) hm8 hg8)
        rw [← HT.out] at BL8
        have HB8 : Hid (Below w.heap.size w W8) := ((HB1.out.trans (below_gr (grown_tr (grown_al w1 (.cells #[.int .i64 i, .string x] 260)) (grown_dr _)) (Nat.le_of_succ_le HBs.out) (by simp))).trans (below_gr hgrow (by simp; have := HBs.out; omega) (fun q e => by have := (hO.lt q e).1; omega))).trans (below_gr hg8 (by have := hgrow.size; simp at this; have := HBs.out; omega) (fun q e => by cases e; exact Nat.le_refl _))
        clear hown1 hgrow hat hlt4 hr8 hm8 hg8 hO hl1 hl2 aM aw
        go_wp2_with fail
        exact ⟨⟨k + 1, _, _, by omega, by go_num, BL8, HB8⟩, by simp [nOf]; omega⟩
    · obtain rfl : k = N := by omega
      have HT : Hid (l.take k = l) := List.take_of_length_le (by rw [hN.out]; exact Nat.le_refl _)
      rw [HT.out] at BL
      have hsz2 : Maps.size D ≤ 1000000 := Nat.le_trans (mp_size BL.out.mp) (by rw [hN.out]; exact hl)
      have KA := Lib.hid (keys_any (some w.heap.size) wr)
      have SA := Lib.hid (sorted_any w.heap.size l.length D RH wr BL.out.mp (Nat.le_trans hsz2 (by decide)) (by omega))
      have HX : Hid (Below w.heap.size wr (wr.alloc (.cells #[.map (some w.heap.size)] 261))) := (Below.refl _ _).alloc HB.out.size _
      have BL1 := Lib.hid (BL.out.below (below_alloc1 wr (.cells #[.map (some w.heap.size)] 261)))
      have HBW : Hid (w.heap.size ≤ wr.heap.size) := HB.out.size
      clear hsz2
      go_wp2_with (first | (refine KA.out.mono ?_; rintro e w2 ⟨rfl, rfl⟩) | (refine SA.out.mono ?_; rintro e w3 ⟨v, ss, rfl, hperm, hrow, -, hb⟩; obtain ⟨q, c, rfl⟩ : ∃ q c, v = .slice q ss.length c := (by rcases hrow.2 with ⟨e, h0⟩ | ⟨g, cp, cur, e, _⟩; exact ⟨_, _, by rw [h0]; exact e⟩; exact ⟨_, _, e⟩)))
      have HKS : Hid (ss.mergeSort (fun x y => decide (x ≤ y)) = lenS l) := mergeSort_of_perm_i (hperm.trans BL.out.keys.symm)
      have HSL : Hid (ss.length = (lenS l).length) := by unfold Hid; rw [← HKS.out, List.length_mergeSort]
      rw [HKS.out, HSL.out] at hrow
      rw [HSL.out]
      obtain ⟨q', c', eq, hq⟩ := ints_own (l := lenS l) hrow
      cases eq
      have HQ := Lib.hid hq
      have BL3 := Lib.hid (BL1.out.below hb)
      have HB3 : Hid (Below w.heap.size w w3) := (HB.out.trans HX.out).trans (hb.mono (by simp; have := HBW.out; omega))
      have HML := Lib.hid (fun z => lenS_mem l z)
      have HKL : Hid ((lenS l).length ≤ k) := by rw [← hN.out]; exact lenS_len l
      have HSZM : Hid (∀ x ∈ l, x.2.size ≤ 1000000) := fun x hx => by
        obtain ⟨j, hj, rfl⟩ := List.getElem_of_mem hx
        have := HSZ.out j
        rwa [List.getD, List.getElem?_eq_getElem hj] at this
      obtain ⟨ks, hks⟩ : ∃ ks, Hid (lenS l = ks) := ⟨_, rfl⟩
      rw [hks.out] at HQ HKL HML ⊢
      obtain ⟨K, hK⟩ : ∃ K, Hid (ks.length = K) := ⟨_, rfl⟩
      rw [hK.out] at HKL ⊢
      have R0 := Lib.hid (RT.mk0 w3)
      clear hrow hq hperm hb KA SA BL BL1 HB HX HT HKS HSL hlt
      go_wp2_with fail
      go_loopw [6, 35] (fun vo i wz => ∃ (j : Nat) (fs : List (FL × List Int)), j ≤ K ∧ i = .int .i64 j ∧ Hid (RT w3 wz vo (.slice none 0 0) fs []) ∧ Hid (fs.map kG = rsF l (ks.take j)) ∧ Hid (∀ f ∈ fs, PFrom w.heap.size f.1.g.p ∧ PFrom w.heap.size f.1.cp)) (fun _ i _ => K - (nOf i).toNat)
      case atStart => exact ⟨0, [], Nat.zero_le _, rfl, R0, by rw [List.take_zero]; exact rfl, fun _ h => by cases h⟩
      case round =>
        clear R0
        obtain ⟨j, fs, hj, rfl, R, RK1, RP⟩ := hrel
        by_cases hlt2 : j < K
        · have hjl : j < ks.length := by rw [hK.out]; exact hlt2
          obtain ⟨kb, ko, rfl, hkb, kc⟩ := int_at HQ.out hjl
          have kc := (R.out.bel.cell (p := ⟨kb, ko + j, none⟩) hkb).trans kc
          have hg := rsF_snoc l ks j hjl
          have hmem : ks.getD j 0 ∈ ks := by rw [List.getD, List.getElem?_eq_getElem hjl]; exact List.getElem_mem hjl
          obtain ⟨y, hy, hyz⟩ := HML.out _ hmem
          obtain ⟨z, hz⟩ : ∃ z : Nat, ks.getD j 0 = (z : Int) := ⟨y.2.size, hyz.symm⟩
          have hzs : z ≤ 1000000 := by have := HSZM.out y hy; omega
          rw [hz, Int.toNat_natCast] at hg
          rw [hz] at kc
          have HG := Lib.hid hg
          have BLz := BL3.out.below R.out.bel
          have hlk := run_lookI BLz.mp z hzs (BLz.at' z)
          obtain ⟨pz, cz, hV, hpl⟩ := pl_own (BLz.row z)
          rw [hV] at hlk
          have hml : (ofL l z).length ≤ 1000000 := Nat.le_trans (List.length_filter_le _ _) (by rw [hN.out]; exact hl)
          have hms : ∀ i, ((ofL l z).getD i default).2.size ≤ 1000000 := fun i => by
            by_cases hi : i < (ofL l z).length
            · rw [List.getD, List.getElem?_eq_getElem hi]
              exact HSZM.out _ (List.mem_filter.1 (List.getElem_mem hi)).1
            · rw [List.getD, List.getElem?_eq_none (by omega)]
              exact Nat.zero_le _
          have OVL := Lib.hid (sOverlaid pz cz (ofL l z) wr hml hms hpl (HE.out.next (HB3.out.trans (R.out.bel.mono HB3.out.size))))
          have HFL : Hid (fs.length ≤ 1000000) := by
            have h1 := rsF_len l (ks.take j)
            rw [← RK1.out, List.length_map, List.length_take] at h1
            have := HKL.out
            unfold Hid; omega
          obtain ⟨mz, hmz⟩ : ∃ mz, Hid ((ofL l z).length = mz) := ⟨_, rfl⟩
          rw [hmz.out] at hlk OVL
          obtain ⟨q6, c6, rfl⟩ := own_slice2 R.out.ro
          have hlt2' : (j : Int) < (K : Int) := by omega
          have hj0 : (0 : Int) ≤ (j : Int) := by omega
          have hKl : K ≤ 1000000 := Nat.le_trans HKL.out hl
          clear hg hmem hy hyz hz BLz hpl hml hms hkb hV
          go_wp2_with fail
          refine OVL.out.mono ?_
          rintro e w5 ⟨hb5, ⟨ho, rfl⟩ | ⟨n, ws, zs, pw, cw, pc, cc, ho, rfl, hpw, hws, hpc, hzi⟩⟩
          · have R5 := Lib.hid (R.out.next (hb5.alloc hb5.size (.cells #[.int .i64 0, .slice none 0 0, .slice none 0 0, .bool false] 87)))
            have HK2 : Hid (fs.map kG = rsF l (ks.take (j + 1))) := by unfold Hid; rw [HG.out, ho, List.append_nil]; exact RK1.out
            clear hb5 ho OVL R hlk kc
            go_wp2_with fail
            exact ⟨⟨j + 1, fs, by omega, by go_num, R5, HK2, RP⟩, by simp [nOf]; omega⟩
          · obtain ⟨L, hL⟩ : ∃ L, Hid (ws.length = L) := ⟨_, rfl⟩
            obtain ⟨Z, hZ⟩ : ∃ Z, Hid (zs.length = Z) := ⟨_, rfl⟩
            rw [hL.out, hZ.out]
            have HK2 : Hid ((fs ++ [((⟨⟨n, pw, cw, ws⟩, pc, zs.length, cc, true⟩ : FL), zs)]).map kG = rsF l (ks.take (j + 1))) := by unfold Hid; rw [HG.out, ho, ← RK1.out, List.map_append]; rfl
            have HWR : w.heap.size ≤ wr.heap.size := Nat.le_trans HB3.out.size R.out.bel.size
            have RP2 : Hid (∀ f ∈ fs ++ [((⟨⟨n, pw, cw, ws⟩, pc, zs.length, cc, true⟩ : FL), zs)], PFrom w.heap.size f.1.g.p ∧ PFrom w.heap.size f.1.cp) := fun f hf => by
              rcases List.mem_append.1 hf with hf | hf
              · exact RP.out f hf
              · rw [List.mem_singleton] at hf
                subst hf
                exact ⟨fun ad e => Nat.le_trans HWR (hpw ad e), fun ad e => Nat.le_trans HWR (hpc ad e)⟩
            have hb6 : Below wr.heap.size wr (w5.alloc (.cells #[.int .i64 n, .slice pw L cw, .slice pc Z cc, .bool true] 87)) := hb5.alloc hb5.size _
            have y0 : (w5.alloc (.cells #[.int .i64 n, .slice pw L cw, .slice pc Z cc, .bool true] 87)).cell? ⟨w5.heap.size, 0, none⟩ = some (.int .i64 n) := nw_at w5 _ 87 0 _ rfl
            have y1 : (w5.alloc (.cells #[.int .i64 n, .slice pw L cw, .slice pc Z cc, .bool true] 87)).cell? ⟨w5.heap.size, 1, none⟩ = some (.slice pw L cw) := nw_at w5 _ 87 1 _ rfl
            have y2 : (w5.alloc (.cells #[.int .i64 n, .slice pw L cw, .slice pc Z cc, .bool true] 87)).cell? ⟨w5.heap.size, 2, none⟩ = some (.slice pc Z cc) := nw_at w5 _ 87 2 _ rfl
            have y3 : (w5.alloc (.cells #[.int .i64 n, .slice pw L cw, .slice pc Z cc, .bool true] 87)).cell? ⟨w5.heap.size, 3, none⟩ = some (.bool true) := nw_at w5 _ 87 3 _ rfl
            have hw6 : StrsAt (w5.alloc (.cells #[.int .i64 n, .slice pw L cw, .slice pc Z cc, .bool true] 87)) pw ws := StrsAt.below hws (below_alloc1 _ _)
            have hi6 : IntsAt (w5.alloc (.cells #[.int .i64 n, .slice pw L cw, .slice pc Z cc, .bool true] 87)) pc zs := hzi.below (below_alloc1 _ _)
            have R6 := Lib.hid (R.out.next hb6)
            have HS5 : Hid (w3.heap.size ≤ w5.heap.size) := by have := R.out.bel.size; have := hb5.size; unfold Hid; omega
            have R7 := fun X => Lib.hid (R6.out.next (below_alloc1 (w5.alloc (.cells #[.int .i64 n, .slice pw L cw, .slice pc Z cc, .bool true] 87)) X))
            have W7 := fun X => Lib.hid (StrsAt.below hw6 (below_alloc1 (w5.alloc (.cells #[.int .i64 n, .slice pw L cw, .slice pc Z cc, .bool true] 87)) X))
            have I7 := fun X => Lib.hid (hi6.below (below_alloc1 (w5.alloc (.cells #[.int .i64 n, .slice pw L cw, .slice pc Z cc, .bool true] 87)) X))
            have OW7 := fun X => Lib.hid (R.out.offS (W7 X).out hpw)
            have OI7 := fun X => Lib.hid (R.out.offI (I7 X).out hpc)
            obtain ⟨i0, hi, hz0, hz1, hz4⟩ := info_parts inf87
            have HFm : Hid (fs.length + 1 ≤ maxLen) := by have := HFL.out; unfold Hid maxLen; omega
            have HFb : Hid ((fs.length + 1) * 64 ≤ 140737488355328) := by have := HFL.out; unfold Hid; omega
            clear hb5 hb6 ho OVL hlk kc hpw hws hpc hzi hw6 hi6 HG R
            go_wp2_with (at_builtin; refine wpList_append_own_at _ rfl (.tmp 47) (.tmp 49) 75 rfl w3.heap.size 87 i0 (.agg #[.int .i64 0, .slice none 0 0, .slice none 0 0, .bool false]) 4 64 Tryz.underlying75 hi hz0 hz1 hz4 rfl (by decide) (.slice q6 fs.length c6) fs.length (flatF fs) rfl (R7 _).out.ro ⟨w5.heap.size + 1, 0, none⟩ 1 1 (flatF [((⟨⟨n, pw, cw, ws⟩, pc, zs.length, cc, true⟩ : FL), zs)]) rfl rfl (rt_new _ _ n pw pc ws zs cw cc L Z hL.out hZ.out (by simp)) flatF_one HFm.out HFb.out (by have := HS5.out; simp; omega) ?_; intro v' w8 hown hgrow _ hat; obtain ⟨g', cap', rfl⟩ := ownsRow_succ hown; have R9 := Lib.hid (RT.out (f := ⟨⟨n, pw, cw, ws⟩, pc, zs.length, cc, true⟩) (R7 _).out (W7 _).out (OW7 _).out (I7 _).out (OI7 _).out rfl hown hgrow hat); clear hown hgrow hat)
            exact ⟨⟨j + 1, _, by omega, by go_num, R9, HK2, RP2⟩, by simp [nOf]; omega⟩
        · obtain rfl : j = K := by omega
          have HT : Hid (ks.take j = ks) := List.take_of_length_le (by rw [hK.out]; exact Nat.le_refl _)
          rw [HT.out] at RK1
          have HD : Hid (rsD l = if 1 < fs.length then [] else fs.map kG) := by unfold Hid rsD; rw [hks.out, ← RK1.out, List.length_map]
          have HBW2 : Hid (Below w.heap.size w wr) := HB3.out.trans (R.out.bel.mono HB3.out.size)
          have RW := Lib.hid (R.out.base HB3.out)
          obtain ⟨q6, c6, rfl⟩ := own_slice2 R.out.ro
          have HFL : Hid (fs.length ≤ 1000000) := by
            have h1 := rsF_len l ks
            rw [← RK1.out, List.length_map] at h1
            have := HKL.out
            have := hK.out
            unfold Hid; omega
          have hfl := HFL.out
          clear R RK1 HT
          by_cases h1 : 1 < fs.length
          · have h1' : (1 : Int) < (fs.length : Int) := by omega
            go_wp2_with fail
            go_ret
            exact ⟨_, [], rfl, (RT.mk0 w).next HBW2.out, by rw [HD.out, if_pos h1]; rfl, fun _ h => by cases h⟩
          · have h1' : ¬ (1 : Int) < (fs.length : Int) := by omega
            go_wp2_with fail
            go_ret
            exact ⟨_, rfl, fs, RW.out, by rw [HD.out, if_neg h1], fun a b h => RP.out (a, b) h⟩
end Go.Proofs.YtmfhpddeclggfaaGreatDoor
