import Derived.Test.YtmfhpddeclggfaaGreatDoorOverMath
import Derived.Test.YtmfhpddeclggfaaGreatDoorROverlay
import Derived.Test.YtmfhpddeclggfaaGreatDoorKg
import Derived.WalkKit
import Derived.LoopTactic
import Derived.WalkSpells
import Derived.WalkLawsBesides
import Derived.Lib.Hide
import Derived.BigQuiet
import Derived.IntWalk
import Derived.Deep.DeepMust
import Derived.WalkSmall
import Derived.StillTailTactics
import Derived.Deep.RegionLaw
import Derived.Deep.QuietTactic
import Derived.Deep.Cut
import Derived.Deep.DeepCutAuto
import Derived.Deep.LoopGhost
import Derived.Laws.AppendOwn
namespace Go.Proofs.YtmfhpddeclggfaaGreatDoor
open Go.RowKit
/-! The law of overlays. -/
theorem ov_pair (ts : List ByteArray) : ∃ (a : ByteArray) (is : Bool), Hid (ovRes ts = .tuple #[.string a, .bool is]) ∧ Hid (is = true → ∀ t ∈ ts, ovRes [a, t] = .tuple #[.string a, .bool true]) ∧ Hid (a.size ≤ (ts.getD 0 ByteArray.empty).size) := by
  by_cases h0 : ts = []
  · exact ⟨⟨#[]⟩, false, by unfold Hid ovRes; rw [if_pos h0], fun e => by simp at e, Nat.zero_le _⟩
  by_cases hs : sameSz ts = true
  · have e : ovRes ts = ovVal ts (ts.getD 0 ByteArray.empty).size := by unfold ovRes; rw [if_neg h0, if_pos hs]
    by_cases ha : (List.range (ts.getD 0 ByteArray.empty).size).all (fun k => oneB (colOf ts k)) = true
    · refine ⟨_, true, by unfold Hid; rw [e, ovVal, if_pos ha], fun _ t ht => ?_, by unfold Hid; rw [bs_size]; simp⟩
      refine over_again ts _ (fun s hs2 => ?_) ha t ht
      exact (sameSz_iff ts).1 hs s hs2 _ (getD_mem (List.length_pos_iff.2 h0))
    · exact ⟨⟨#[]⟩, false, by unfold Hid; rw [e, ovVal, if_neg ha], fun e => by simp at e, Nat.zero_le _⟩
  · exact ⟨⟨#[]⟩, false, by unfold Hid ovRes; rw [if_neg h0, if_neg hs], fun e => by simp at e, Nat.zero_le _⟩
theorem ov_any (ts : List ByteArray) : ∃ (a : ByteArray) (is : Bool), Hid (ovRes ts = .tuple #[.string a, .bool is]) :=
  let ⟨a, is, h, _⟩ := ov_pair ts
  ⟨a, is, h⟩
theorem sumL_le : ∀ (ts : List ByteArray) (B : Nat), (∀ s ∈ ts, s.size ≤ B) → sumL ts ≤ ((ts.length * B : Nat) : Int)
  | [], B, _ => by simp [sumL]
  | t :: ts, B, h => by
    have ih := sumL_le ts B (fun s hs => h s (List.mem_cons_of_mem _ hs))
    have h1 := h t List.mem_cons_self
    unfold sumL at ih ⊢
    simp only [List.map_cons, List.sum_cons, List.length_cons, Nat.add_mul]
    omega
theorem le_sumL : ∀ (ts : List ByteArray) (s : ByteArray), s ∈ ts → (s.size : Int) ≤ sumL ts
  | t :: ts, s, h => by
    unfold sumL
    simp only [List.map_cons, List.sum_cons]
    rcases List.mem_cons.1 h with rfl | h
    · omega
    · have := le_sumL ts s h
      unfold sumL at this
      omega
abbrev strsV (l : List ByteArray) : List Value := l.map Value.string
theorem inf9 : (Tryz.prog.info? 9).map (fun i => (i.zero, i.size, i.bytes)) = some (some (.string ⟨#[]⟩), 1, 16) := by kernel_rfl
theorem strs_own {W : World} {B : Nat} {v : Value} {l : List ByteArray} (h : W.ownsRow B 9 1 v l.length (strsV l)) : ∃ q cap, v = .slice q l.length cap ∧ StrsAt W q l := by
  obtain ⟨h1, ⟨rfl, h2⟩ | ⟨g, cap, cur, rfl, hg, hc, h3, h4, h5, h6⟩⟩ := h
  · exact ⟨none, 0, by rw [h2], .inl (List.length_eq_zero_iff.1 h2)⟩
  · refine ⟨some ⟨g, 0, none⟩, cap, rfl, .inr ⟨g, 0, rfl, (Array.getElem?_eq_some_iff.1 hc).1, fun j hj => ?_⟩⟩
    have g1 : (strsV l)[j]? = some (.string (l.getD j ByteArray.empty)) := by
      rw [strsV, List.getElem?_map, List.getD, List.getElem?_eq_getElem hj]; rfl
    rw [← h6, List.getElem?_take_of_lt (by omega)] at g1
    rw [Nat.zero_add]
    simpa [World.cell?, hc] using g1
theorem rev_take (ts : List ByteArray) (k : Nat) (h : k < ts.length) : ts.reverse.take (k + 1) = ts.reverse.take k ++ [ts.getD (ts.length - 1 - k) ByteArray.empty] := by
  rw [List.take_succ_eq_append_getElem (by simpa using h), List.getElem_reverse, List.getD, List.getElem?_eq_getElem (by omega)]
  rfl
set_option maxRecDepth 100000 in
set_option maxHeartbeats 4000000 in
theorem ov_big (p : Option Addr) (cap : Nat) (ts : List ByteArray) (w : World) (he : Env w) (hl : ts.length ≤ maxLen) (hz : ∀ j, (ts.getD j ByteArray.empty).size ≤ maxLen) (hp : StrsAt w p ts) (h : 20 < ts.length ∨ 3000 < wrap64 (sumL ts)) :
    Calls Tryz.prog 8 #[.slice p ts.length cap] w fun e w' => e = .returned (.bool true) ∧ Below w.heap.size w w' := by
  have SZ := Lib.hid (size_any p cap ts w hl hz hp)
  have SN := Lib.hid (sanity_any w he)
  obtain ⟨N, hN⟩ : ∃ N, ts.length = N := ⟨_, rfl⟩
  obtain ⟨t, ht⟩ : ∃ t, wrap64 (sumL ts) = t := ⟨_, rfl⟩
  rw [hN] at SZ h hl ⊢
  rw [ht] at SZ h
  unfold maxLen at hl
  clear he hz hp hN ht
  by_cases h2 : 20 < (N : Int)
  · clear h
    go_enter Tryz.func8, Tryz.ntmps8
    go_wp2_with fail
    refine SN.out.mono ?_
    rintro e w1 ⟨rfl, hb⟩
    have B := Lib.hid hb
    clear hb
    go_wp2_with fail
    go_ret
    exact ⟨rfl, B.out⟩
  · have h3 : 3000 < t := by omega
    clear h
    go_enter Tryz.func8, Tryz.ntmps8
    go_wp2_with fail
    refine SZ.out.mono ?_
    rintro e w1 ⟨rfl, rfl⟩
    go_wp2_with fail
    refine SN.out.mono ?_
    rintro e w1 ⟨rfl, hb⟩
    have B := Lib.hid hb
    clear hb
    go_wp2_with fail
    go_ret
    exact ⟨rfl, B.out⟩
/-- The pieces in reversed order, as far as they are laid. -/
structure OR (w W : World) (B : Nat) (v : Value) (k : Nat) (ts : List ByteArray) : Prop where
  bel : Below w.heap.size w W
  own : W.ownsRow B 9 1 v k (strsV (ts.reverse.take k))
  hB : w.heap.size ≤ B
  hW : B ≤ W.heap.size
set_option maxRecDepth 100000 in
set_option maxHeartbeats 8000000 in
theorem ov_small (p : Option Addr) (cap : Nat) (ts : List ByteArray) (w : World) (he : Env w) (hl : ts.length ≤ 20) (hz : ∀ s ∈ ts, s.size ≤ 3000) (ht3 : wrap64 (sumL ts) ≤ 3000) (hp : StrsAt w p ts) :
    Calls Tryz.prog 8 #[.slice p ts.length cap] w fun e w' => e = .returned (.bool true) ∧ Below w.heap.size w w' := by
  have hz2 : ∀ j, (ts.getD j ByteArray.empty).size ≤ 3000 := fun j => by
    rw [List.getD]
    cases hj : ts[j]? with
    | none => exact Nat.zero_le _
    | some s => exact hz s (List.mem_of_getElem? hj)
  have SZ := Lib.hid (size_any p cap ts w (by unfold maxLen; omega) (fun j => by have := hz2 j; unfold maxLen; omega) hp)
  have HZ := Lib.hid hz2
  have HZM := Lib.hid hz
  have HE := Lib.hid he
  have HP := Lib.hid hp
  have HL := Lib.hid hl
  obtain ⟨a, is, P1, A1, S1⟩ := ov_pair ts
  have HA : Hid (a.size ≤ 3000) := Nat.le_trans S1.out (hz2 0)
  have OV : Hid (∀ W q c, StrsAt W q ts → Calls Tryz.prog 50 #[.slice q ts.length c] W fun e w' => e = .returned (.tuple #[.string a, .bool is]) ∧ Below W.heap.size W w') := fun W q c h => by
    have := sOverlay q c ts W (by omega) (fun j _ => by have := hz2 j; omega) h
    rwa [P1.out] at this
  have RV : Hid (∀ W q c, StrsAt W q ts → Calls Tryz.prog 51 #[.slice q ts.length c] W fun e w' => e = .returned (.tuple #[.string a, .bool is]) ∧ Below W.heap.size W w') := fun W q c h => by
    have := rOverlay q c ts W (by omega) (fun j _ => by have := hz2 j; omega) h
    rwa [P1.out] at this
  have BV : Hid (∀ W q c, StrsAt W q ts.reverse → Calls Tryz.prog 50 #[.slice q ts.length c] W fun e w' => e = .returned (.tuple #[.string a, .bool is]) ∧ Below W.heap.size W w') := fun W q c h => by
    have hr : ∀ j, (ts.reverse.getD j ByteArray.empty).size ≤ 3000 := fun j => by
      rw [List.getD]
      cases hj : ts.reverse[j]? with
      | none => exact Nat.zero_le _
      | some s => exact hz s (List.mem_reverse.1 (List.mem_of_getElem? hj))
    have := sOverlay q c ts.reverse W (by simp; omega) (fun j _ => by have := hr j; omega) h
    rwa [ovRes_rev, P1.out, List.length_reverse] at this
  obtain ⟨N, hN⟩ : ∃ N, Hid (ts.length = N) := ⟨_, rfl⟩
  obtain ⟨t, ht⟩ : ∃ t, wrap64 (sumL ts) = t := ⟨_, rfl⟩
  rw [hN.out] at SZ hl OV RV BV ⊢
  rw [ht] at SZ ht3
  have hN2 : (N : Int) ≤ 20 := by omega
  obtain ⟨i0, hi, hz0, hz1, hz4⟩ := info_parts inf9
  clear he hp hz hz2 ht S1
  go_enter Tryz.func8, Tryz.ntmps8
  go_wp2_with fail
  refine SZ.out.mono ?_
  rintro e w1 ⟨rfl, rfl⟩
  clear SZ
  go_wp2_with fail
  refine (OV.out w p cap HP.out).mono ?_
  rintro e w1 ⟨rfl, hb⟩
  have B1 := Lib.hid hb
  clear hb OV
  go_wp2_with fail
  refine (RV.out w1 p cap (HP.out.below B1.out)).mono ?_
  rintro e w2 ⟨rfl, hb⟩
  have B2 : Hid (Below w.heap.size w w2) := B1.out.trans (hb.mono B1.out.size)
  clear hb RV B1
  go_wp2_with fail
  go_loopw [7, 44] (fun v i wr => ∃ k : Nat, k ≤ N ∧ i = .int .i64 k ∧ Hid (OR w wr w2.heap.size v k ts)) (fun _ i _ => N - (intOf i).toNat)
  case atStart => exact ⟨0, Nat.zero_le _, rfl, ⟨B2.out, World.ownsRow_nil _ _ _ _, B2.out.size, Nat.le_refl _⟩⟩
  case round =>
    obtain ⟨k, hk, rfl, R⟩ := hrel
    by_cases hlt : k < N
    · obtain ⟨b, o, rfl, -, c1⟩ := str_at (HP.out.below R.out.bel) (show N - 1 - k < ts.length by rw [hN.out]; omega)
      obtain ⟨s, hs⟩ : ∃ s, Hid (ts.getD (N - 1 - k) ByteArray.empty = s) := ⟨_, rfl⟩
      rw [hs.out] at c1
      have e1 : ((N : Int) - 1 - (k : Int)).toNat = N - 1 - k := by omega
      have e2 : (0 : Int) ≤ (N : Int) - 1 - (k : Int) := by omega
      have e3 : (N : Int) - 1 - (k : Int) < (N : Int) := by omega
      have e4 : (k : Int) < (N : Int) := by omega

      have HNW : Hid (∀ j u, ([.string s] : List Value)[j]? = some u → (wr.alloc (.cells #[.string s] 9)).cell? ((⟨wr.heap.size, 0, none⟩ : Addr).add j) = some u) := cells_new wr #[.string s] 9
      have HK1 : Hid (k + 1 ≤ maxLen) := by unfold Hid maxLen; omega
      have HK2 : Hid ((k + 1) * 16 ≤ 140737488355328) := by unfold Hid; omega
      have HK3 : Hid (w2.heap.size ≤ (wr.alloc (.cells #[.string s] 9)).heap.size) := by have := R.out.hW; unfold Hid; simp; omega
      go_wp2_with (at_builtin; refine wpList_append_own _ rfl (.tmp 47) (.tmp 56) 37 rfl w2.heap.size 9 i0 (.string ⟨#[]⟩) 1 16 Tryz.underlying37 hi hz0 hz1 hz4 rfl (by decide) u7 k (strsV (ts.reverse.take k)) rfl (R.out.own.alloc _) ⟨wr.heap.size, 0, none⟩ 1 1 [.string s] rfl rfl HNW.out (by simp [Value.oneCell']) HK1.out HK2.out HK3.out ?_; intro v' w4 hown hgrow _)
      refine ⟨⟨k + 1, by omega, by go_num, ?_⟩, by simp [intOf]; omega⟩
      have e5 : strsV (ts.reverse.take (k + 1)) = strsV (ts.reverse.take k) ++ [.string s] := by
        rw [rev_take ts k (by rw [hN.out]; omega), hN.out, hs.out, strsV, List.map_append]; rfl
      have s4 := hgrow.size
      have s3 := HK3.out
      exact ⟨(R.out.bel.alloc R.out.bel.size _).grown hgrow (by have := R.out.hB; omega) (fun g hg => by have := (R.out.own.lt g hg).1; have := R.out.hB; omega), by rw [e5]; exact hown, R.out.hB, by omega⟩
    · obtain rfl : k = N := by omega
      have hown := R.out.own
      rw [List.take_of_length_le (by rw [List.length_reverse, hN.out]; exact Nat.le_refl _)] at hown
      have hlr : ts.reverse.length = k := by rw [List.length_reverse, hN.out]
      rw [← hlr] at hown
      obtain ⟨q, cq, rfl, hst⟩ := strs_own hown
      rw [hlr]
      have BVV := Lib.hid (BV.out wr q cq hst)
      have RB := Lib.hid R.out.bel
      clear hown hlr R BV hst
      go_wp2_with fail
      refine BVV.out.mono ?_
      rintro e w3 ⟨rfl, hb⟩
      have B3 : Hid (Below w.heap.size w w3) := RB.out.trans (hb.mono RB.out.size)
      clear hb BVV RB
      go_wp2_with fail
      go_loopw [74] (fun i wr => ∃ j : Nat, j ≤ k ∧ i = .int .i64 j ∧ Hid (Below w.heap.size w wr)) (fun i _ => k - (intOf i).toNat)
      case atStart => exact ⟨0, Nat.zero_le _, rfl, B3⟩
      case round =>
        obtain ⟨j, hj, rfl, B4⟩ := hrel
        by_cases hlt : j < k
        · obtain ⟨b, o, rfl, -, c1⟩ := str_at (HP.out.below B4.out) (show j < ts.length by rw [hN.out]; exact hlt)
          have hmem := getD_mem (show j < ts.length by rw [hN.out]; exact hlt)
          obtain ⟨s, hs⟩ : ∃ s, ts.getD j ByteArray.empty = s := ⟨_, rfl⟩
          rw [hs] at c1 hmem
          have hss := HZM.out s hmem
          have e4 : (j : Int) < (k : Int) := by omega
          have C5 := sOverlay (some ⟨wr.heap.size, 0, none⟩) 2 [a, s] (wr.alloc (.cells #[.string a, .string s] 9)) (by simp) (fun l hl => match l, hl with | 0, _ => by (show a.size ≤ 1000000; have := HA.out; omega) | 1, _ => by (show s.size ≤ 1000000; omega)) (strs_two _ _ _ _)
          have HBA : Hid (Below w.heap.size w (wr.alloc (.cells #[.string a, .string s] 9))) := B4.out.alloc B4.out.size _
          cases is with
          | true =>
            rw [A1.out rfl s hmem] at C5
            have D5 := Lib.hid C5
            clear C5 hmem hs hss
            go_wp2_with fail
            refine D5.out.mono ?_
            rintro e w5 ⟨rfl, hb⟩
            have B5 : Hid (Below w.heap.size w w5) := HBA.out.trans (hb.mono HBA.out.size)
            clear hb D5
            go_wp2_with fail
            exact ⟨⟨j + 1, by omega, by go_num, B5⟩, by simp [intOf]; omega⟩
          | false =>
            obtain ⟨a2, is2, P2⟩ := ov_any [a, s]
            rw [P2.out] at C5
            have D5 := Lib.hid C5
            clear C5 hmem hs hss P2
            go_wp2_with fail
            refine D5.out.mono ?_
            rintro e w5 ⟨rfl, hb⟩
            have B5 : Hid (Below w.heap.size w w5) := HBA.out.trans (hb.mono HBA.out.size)
            clear hb D5
            go_wp2_with fail
            exact ⟨⟨j + 1, by omega, by go_num, B5⟩, by simp [intOf]; omega⟩
        · obtain rfl : j = k := by omega
          have SN := Lib.hid (sanity_any wr (HE.out.next B4.out))
          go_wp2_with fail
          refine SN.out.mono ?_
          rintro e w6 ⟨rfl, hb⟩
          have B6 : Hid (Below w.heap.size w w6) := B4.out.trans (hb.mono B4.out.size)
          clear hb
          go_wp2_with fail
          go_ret
          exact ⟨rfl, B6.out⟩
/-- The law; each piece as long as memory allows. -/
theorem sheetOverlays_law (p : Option Addr) (cap : Nat) (ts : List ByteArray) (w : World) (he : Env w) (hl : ts.length ≤ maxLen) (hz : ∀ j, (ts.getD j ByteArray.empty).size ≤ maxLen) (hp : StrsAt w p ts) (hr : ∀ s ∈ ts, s.size ≤ 140737488355328) :
    Calls Tryz.prog 8 #[.slice p ts.length cap] w fun e w' => e = .returned (.bool true) ∧ Below w.heap.size w w' := by
  by_cases h : 20 < ts.length ∨ 3000 < wrap64 (sumL ts)
  · exact ov_big p cap ts w he hl hz hp h
  · have h1 : ts.length ≤ 20 := by omega
    have h2 : wrap64 (sumL ts) ≤ 3000 := by omega
    have h3 := sumL_le ts 140737488355328 hr
    have h4 : 0 ≤ sumL ts := by unfold sumL; omega
    have h5 : wrap64 (sumL ts) = sumL ts := by unfold wrap64; omega
    exact ov_small p cap ts w he h1 (fun s hs => by have := le_sumL ts s hs; omega) h2 hp
end Go.Proofs.YtmfhpddeclggfaaGreatDoor
