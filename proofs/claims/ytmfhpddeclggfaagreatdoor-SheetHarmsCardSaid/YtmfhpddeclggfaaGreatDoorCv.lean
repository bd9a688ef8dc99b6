import Derived.Test.YtmfhpddeclggfaaGreatDoorCu
import Derived.WalkKit
import Derived.LoopTactic
import Derived.WalkSpells
import Derived.WalkLawsBesides
import Derived.Lib.Hide
import Derived.BigQuiet
import Derived.IntWalk
import Derived.Deep.DeepMust
import Derived.WalkSmall
import Derived.StillTailTactics
import Derived.Deep.RegionLaw
import Derived.Deep.QuietTactic
import Derived.Deep.Cut
import Derived.Deep.DeepCutAuto
import Derived.Deep.LoopGhost
import Derived.Laws.AppendOwn
namespace Go.Proofs.YtmfhpddeclggfaaGreatDoor
open Go.RowKit
theorem nil_or (s : ByteArray) : s.size = 0 ∨ ∃ h : 0 < s.size, s.data.toList.head? = some s[0] := by
  by_cases h : s.size = 0
  · exact .inl h
  · refine .inr ⟨by omega, ?_⟩
    have := at_list s 0 (by omega)
    rw [← this, List.head?_eq_getElem?]
set_option maxRecDepth 100000 in
set_option maxHeartbeats 4000000 in
/-- The reference's Speaks. -/
theorem rSpeaks (s : ByteArray) (w : World) (hs : s.size ≤ 1000000) :
    Calls Tryz.prog 43 #[.string s] w fun e w' => e = .returned (spRes (spk s.data.toList)) ∧ Below w.heap.size w w' := by
  have HS := Lib.hid hs
  rcases nil_or s with hz | ⟨h0, hh⟩
  · have e1 := str_nil hz
    have HR : Hid (spk s.data.toList = none) := spk_bad (by
      have h3 : s.data.toList.length = s.size := by simp
      rw [hz] at h3
      rw [List.length_eq_zero_iff.1 h3]; decide)
    go_enter Tryz.func43, Tryz.ntmps43
    go_wp2_with fail
    refine bodyPost_ret (v := .tuple #[.int .i64 0, .bool false]) (by simp [results, Tryz.results43, go_sem]) rfl ⟨?_, Below.refl _ _⟩
    rw [HR.out]; rfl
  · have e1 := str_not_nil (show ¬ s.size = 0 by omega)
    by_cases h64 : s[0] = 64
    · have e2 : ((s[0].toNat : Int) != 64) = false := by rw [h64]; rfl
      obtain ⟨r, hr⟩ : ∃ r, s.extract 1 s.size = r := ⟨_, rfl⟩
      have hl : Hid (s.data.toList = 64 :: r.data.toList) := by
        rw [← hr, show (s.extract 1 s.size).data.toList = s.data.toList.drop 1 from Lib.extract_to_end s 1]
        cases hc : s.data.toList with
        | nil => rw [hc] at hh; cases hh
        | cons b l => rw [hc] at hh; rw [h64] at hh; rw [Option.some.inj hh]; rfl
      have hrz : r.size ≤ 1000000 := by rw [← hr, ByteArray.size_extract]; omega
      have SP := Lib.hid (rSplit r 32 w hrz)
      clear hh h64
      go_enter Tryz.func43, Tryz.ntmps43
      go_wp2_with fail
      refine SP.out.mono ?_
      rintro e w1 ⟨ps, v, rfl, hown, hb, hps⟩
      have hne : ps ≠ [] := fun e => by
        have := hps.out
        rw [e] at this
        exact spL_ne _ _ this.symm
      obtain ⟨q, cap, rfl, hst⟩ := strs_own hown
      clear SP hown
      have HB := Lib.hid hb
      match ps, hne, hps, hst with
      | p0 :: vs, _, HPS, hst =>
        obtain ⟨b, o, rfl, hbl, cc0⟩ := str_at hst (k := 0) (by simp)
        have hz0 : p0.size ≤ 1000000 := by
          have h7 : p0.data.toList ∈ spL 32 r.data.toList := by rw [← HPS.out]; exact List.mem_map.2 ⟨p0, List.mem_cons_self, rfl⟩
          have h8 := spL_len 32 _ _ h7
          rw [← Lib.size_eq, ← Lib.size_eq] at h8
          omega
        have HSP : Hid (spk s.data.toList = spkv (!(vs.map (·.data.toList)).isEmpty) (rdInt p0.data.toList).isSome ((rdInt p0.data.toList).getD 0)) := by
          rw [hl.out]
          exact spk_good (by rw [← HPS.out]; rfl)
        have cc1 : w1.cell? ⟨b, o, none⟩ = some (.string p0) := cc0
        have RD := Lib.hid (rReadInt p0 w1 (by unfold maxLen; omega))
        obtain ⟨a0, r0, P0, I0, J0⟩ : ∃ a0 r0, Hid (rdNum p0.data.toList = .agg #[.int .i64 a0, .int .i64 r0]) ∧ Hid (a0 = (rdInt p0.data.toList).getD 0) ∧ Hid (r0 = if (rdInt p0.data.toList).isSome then 0 else 7) := ⟨_, _, rfl, rfl, rfl⟩
        rw [P0.out] at RD
        obtain ⟨N, hN⟩ : ∃ N, Hid (vs.length + 1 = N) := ⟨_, rfl⟩
        have hNe : (p0 :: vs).length = N := hN
        rw [hNe]
        have hN1 : 1 ≤ N := by have := hN.out; omega
        clear cc0 hst hps hbl hNe hb
        go_wp2_with fail
        refine RD.out.mono ?_
        rintro e w2 ⟨rfl, hb2⟩
        have BB : Hid (Below w.heap.size w (w2.alloc (.cells #[.int .i64 a0, .int .i64 r0] 27))) := ((HB.out.trans (hb2.mono HB.out.size))).alloc (by have := HB.out.size; have := hb2.size; omega) _
        have c0 : (w2.alloc (.cells #[.int .i64 a0, .int .i64 r0] 27)).cell? ⟨w2.heap.size, 0, none⟩ = some (.int .i64 a0) := nw_at w2 _ 27 0 _ rfl
        have c1 : (w2.alloc (.cells #[.int .i64 a0, .int .i64 r0] 27)).cell? ⟨w2.heap.size, 1, none⟩ = some (.int .i64 r0) := nw_at w2 _ 27 1 _ rfl
        clear RD hb2
        by_cases hN2 : N < 2
        · have hN2' : (N : Int) < 2 := by omega
          have HR : Hid (spk s.data.toList = none) := by
            rw [HSP.out]
            have : vs = [] := List.length_eq_zero_iff.1 (by have := hN.out; omega)
            rw [this]
            unfold spkv; rw [if_neg (by simp)]; rfl
          go_wp2_with fail
          refine bodyPost_ret (v := .tuple #[.int .i64 0, .bool false]) (by simp [results, Tryz.results43, go_sem]) rfl ⟨?_, BB.out⟩
          rw [HR.out]; rfl
        · have hN2' : ¬ (N : Int) < 2 := by omega
          have hve : (!(vs.map (·.data.toList)).isEmpty) = true := by
            have := hN.out
            cases vs with
            | nil => simp at this; omega
            | cons x y => rfl
          rw [hve] at HSP
          by_cases hr : r0 = 0
          · have hi : (rdInt p0.data.toList).isSome = true := by
              cases hx : (rdInt p0.data.toList).isSome with
              | true => rfl
              | false => have h9 := J0.out; rw [hx, hr] at h9; exact absurd h9 (by decide)
            rw [hi, ← I0.out] at HSP
            have hr0 : (r0 != 0) = false := by rw [hr]; rfl
            by_cases ha : 1 ≤ a0 ∧ a0 ≤ 400
            · have HR : Hid (spk s.data.toList = some a0) := by rw [HSP.out]; unfold spkv; rw [if_pos ⟨rfl, rfl, ha.1, ha.2⟩]; rfl
              have HIN := fun W => Lib.hid (in_yes a0 1 400 W ha.1 ha.2)
              clear hi hve ha hr
              go_wp2_with (refine (HIN _).out.mono ?_; rintro e w3 ⟨rfl, rfl⟩)
              refine bodyPost_ret (v := .tuple #[.int .i64 a0, .bool true]) (by simp [results, Tryz.results43, go_sem]) rfl ⟨?_, BB.out⟩
              rw [HR.out]; rfl
            · have HR : Hid (spk s.data.toList = none) := by rw [HSP.out]; unfold spkv; rw [if_neg (fun h => ha ⟨h.2.2.1, h.2.2.2⟩)]; rfl
              have HIN := fun W => Lib.hid (in_no a0 1 400 W (by omega))
              clear hi hve ha hr
              go_wp2_with (refine (HIN _).out.mono ?_; rintro e w3 ⟨rfl, rfl⟩)
              refine bodyPost_ret (v := .tuple #[.int .i64 0, .bool false]) (by simp [results, Tryz.results43, go_sem]) rfl ⟨?_, BB.out⟩
              rw [HR.out]; rfl
          · have hi : (rdInt p0.data.toList).isSome = false := by
              cases hx : (rdInt p0.data.toList).isSome with
              | false => rfl
              | true => have h9 := J0.out; rw [hx] at h9; exact absurd h9 hr
            rw [hi] at HSP
            have HR : Hid (spk s.data.toList = none) := by rw [HSP.out]; unfold spkv; rw [if_neg (by simp)]; rfl
            have hr0 : (r0 != 0) = true := by rw [bne, beq_eq_false_iff_ne.2 hr]; rfl
            have hr0' : ¬ r0 = 0 := hr
            clear hi hve
            go_wp2_with fail
            refine bodyPost_ret (v := .tuple #[.int .i64 0, .bool false]) (by simp [results, Tryz.results43, go_sem]) rfl ⟨?_, BB.out⟩
            rw [HR.out]; rfl
    · have e2 : ((s[0].toNat : Int) != 64) = true := by
        rw [bne, Bool.not_eq_true', beq_eq_false_iff_ne]
        exact fun e => h64 (u8_eq (by have : ((64 : UInt8).toNat : Int) = 64 := rfl; omega))
      have HR : Hid (spk s.data.toList = none) := spk_bad (by rw [hh]; exact fun e => h64 (Option.some.inj e))
      clear hh h64
      go_enter Tryz.func43, Tryz.ntmps43
      go_wp2_with fail
      refine bodyPost_ret (v := .tuple #[.int .i64 0, .bool false]) (by simp [results, Tryz.results43, go_sem]) rfl ⟨?_, Below.refl _ _⟩
      rw [HR.out]; rfl

/-- Are two lists of texts equal? -/
def sameTs (ws vs : List ByteArray) : Bool := sameB 0 0 ws vs
set_option maxRecDepth 100000 in
set_option maxHeartbeats 4000000 in
/-- The comparison of two lists of texts. -/
theorem sameTexts (p q : Option Addr) (c d : Nat) (ws vs : List ByteArray) (w : World) (hl : ws.length ≤ maxLen) (hp : StrsAt w p ws) (hq : StrsAt w q vs) :
    Calls Tryz.prog 44 #[.slice p ws.length c, .slice q vs.length d] w fun e w' => e = .returned (.bool (sameTs ws vs)) ∧ Below w.heap.size w w' := by
  by_cases hlen : ws.length = vs.length
  · have HL := Lib.hid hlen
    have HP := Lib.hid hp
    have HQ := Lib.hid hq
    obtain ⟨N, hN⟩ : ∃ N, Hid (ws.length = N) := ⟨_, rfl⟩
    have hM : Hid (vs.length = N) := hlen.symm.trans hN.out
    rw [hN.out] at hl ⊢
    rw [hM.out]
    unfold maxLen at hl
    clear hp hq hlen
    go_enter Tryz.func44, Tryz.ntmps44
    go_wp2_with fail
    go_loopw [5] (fun i wr => ∃ k : Nat, k ≤ N ∧ i = .int .i64 k ∧ Hid (Below w.heap.size w wr) ∧ Hid (sameTo ws vs k)) (fun i _ => N - (intOf i).toNat)
    case atStart => exact ⟨0, Nat.zero_le _, rfl, Below.refl _ _, fun j hj => absurd hj (Nat.not_lt_zero _)⟩
    case round =>
      obtain ⟨k, hk, rfl, Q, hs⟩ := hrel
      by_cases hlt : k < N
      · obtain ⟨b, o, rfl, -, c2⟩ := str_at (HP.out.below Q.out) (show k < ws.length by rw [hN.out]; exact hlt)
        obtain ⟨b', o', rfl, -, c3⟩ := str_at (HQ.out.below Q.out) (show k < vs.length by rw [hM.out]; exact hlt)
        obtain ⟨s, hs1⟩ : ∃ s, Hid (ws.getD k ByteArray.empty = s) := ⟨_, rfl⟩
        obtain ⟨t, ht1⟩ : ∃ t, Hid (vs.getD k ByteArray.empty = t) := ⟨_, rfl⟩
        rw [hs1.out] at c2
        rw [ht1.out] at c3
        have hlt' : (k : Int) < (N : Int) := by omega
        have hk0 : (0 : Int) ≤ (k : Int) := by omega
        by_cases he : s.data.toList = t.data.toList
        · have e1 := str_beq_true he
          have e2 : (s.toList != t.toList) = false := by rw [bne, e1]; rfl
          have HS : Hid (sameTo ws vs (k + 1)) := fun j hj => by
            by_cases e : j < k
            · exact hs.out j e
            · obtain rfl : j = k := by omega
              rw [hs1.out, ht1.out]; exact he
          clear he
          go_wp2_with fail
          go_quiet (fail)
          have Q1 := Lib.hid (below_drewN Q.out nq)
          go_wp2_with fail
          exact ⟨⟨k + 1, by omega, by go_num, Q1, HS⟩, by simp [intOf]; omega⟩
        · have e1 := str_beq_false he
          have e2 : (s.toList != t.toList) = true := by rw [bne, e1]; rfl
          have HS : Hid (sameTs ws vs = false) := sameB_at k (by rw [hN.out]; exact hlt) (by rw [hM.out]; exact hlt) (by rw [hs1.out, ht1.out]; exact he)
          clear he
          go_wp2_with fail
          go_quiet (fail)
          have Q1 := Lib.hid (below_drewN Q.out nq)
          go_wp2_with fail
          go_ret
          exact ⟨ret_bool HS.out.symm, Q1.out⟩
      · obtain rfl : k = N := by omega
        have HS : Hid (sameTs ws vs = true) := sameB_yes HL.out (by rw [hN.out]; exact hs.out)
        go_wp2_with fail
        go_ret
        exact ⟨ret_bool HS.out.symm, Q.out⟩
  · have HS : Hid (sameTs ws vs = false) := sameB_len hlen
    obtain ⟨N, hN⟩ : ∃ N, Hid (ws.length = N) := ⟨_, rfl⟩
    obtain ⟨M, hM⟩ : ∃ M, Hid (vs.length = M) := ⟨_, rfl⟩
    rw [hN.out, hM.out] at hlen ⊢
    have hne : ¬ (N : Int) = (M : Int) := by omega
    have hne2 : ((N : Int) != (M : Int)) = true := by rw [bne, beq_eq_false_iff_ne.2 hne]; rfl
    clear hp hq hl
    go_enter Tryz.func44, Tryz.ntmps44
    go_wp2_with fail
    go_ret
    exact ⟨ret_bool HS.out.symm, Below.refl _ _⟩
theorem sameTs_self (ws : List ByteArray) : sameTs ws ws = true := sameB_yes rfl (fun _ _ => rfl)
end Go.Proofs.YtmfhpddeclggfaaGreatDoor
