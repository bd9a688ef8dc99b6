import Derived.Test.YtmfhpddeclggfaaGreatDoorRSheet
import Derived.WalkKit
import Derived.LoopTactic
import Derived.WalkSpells
import Derived.WalkLawsBesides
import Derived.Lib.Hide
import Derived.BigQuiet
import Derived.IntWalk
import Derived.Deep.DeepMust
import Derived.WalkSmall
import Derived.StillTailTactics
import Derived.Lib.SlBytesConst
import Derived.Deep.RegionLaw
import Derived.Deep.QuietTactic
namespace Go.Proofs.YtmfhpddeclggfaaGreatDoor
open Go.RowKit
theorem sheet_pair (ls : List GL) (hs : ∀ j, j < ls.length → (ls.getD j default).small) : ∃ x ex, Hid ((∀ (W : World) (p : Option Addr) (cap : Nat), ListsAt W p ls → Env W → Calls Tryz.prog 38 #[.slice p ls.length cap] W fun e w' => e = .returned (.tuple #[.string x, .int .i64 ex]) ∧ Below W.heap.size W w') ∧
    (∀ (W : World) (p : Option Addr) (cap : Nat), ListsAt W p ls → Calls Tryz.prog 39 #[.slice p ls.length cap] W fun e w' => e = .returned (.agg #[.string x, .int .i64 ex]) ∧ Below W.heap.size W w')) := by
  by_cases h : ls.length ≤ 400
  · by_cases h0 : waErr (numbered ls) = 0
    · refine ⟨bs (waText (numbered ls)), 0, fun W p cap hp he => ?_, fun W p cap hp => ?_⟩
      · have := sSheet_ok p cap ls W h hs hp he
        rw [waRes, if_pos h0] at this; exact this
      · have := rSheet_ok p cap ls W h hs hp
        rw [shAgg, if_pos h0] at this; exact this
    · refine ⟨⟨#[]⟩, waErr (numbered ls), fun W p cap hp he => ?_, fun W p cap hp => ?_⟩
      · have := sSheet_ok p cap ls W h hs hp he
        rw [waRes, if_neg h0] at this; exact this
      · have := rSheet_ok p cap ls W h hs hp
        rw [shAgg, if_neg h0] at this; exact this
  · refine ⟨⟨#[]⟩, 2, fun W p cap hp he => ?_, fun W p cap hp => ?_⟩
    · refine (sSheet_long p ls.length cap W (by omega)).mono ?_
      rintro e w' ⟨rfl, rfl⟩
      exact ⟨rfl, Below.refl _ _⟩
    · exact rSheet_long p ls.length cap W (by omega)
set_option maxRecDepth 100000 in
set_option maxHeartbeats 2000000 in
theorem sheetSheets_of (p : Option Addr) (cap : Nat) (ls : List GL) (w : World) (he : Env w) (hl : ls.length ≤ maxLen) (hs : ∀ j, j < ls.length → (ls.getD j default).small) (hp : ListsAt w p ls)
    (SC : Hid (∀ W : World, Env W → Calls Tryz.prog 19 #[] W fun e w' => e = .returned (.bool true) ∧ Below W.heap.size W w')) :
    Calls Tryz.prog 5 #[.slice p ls.length cap] w fun e w' => e = .returned (.bool true) ∧ Below w.heap.size w w' := by
  have HE := Lib.hid he
  have HS := Lib.hid hs
  have HP := Lib.hid hp
  obtain ⟨x, ex, P⟩ := sheet_pair ls hs
  have C0 := Lib.hid (SC.out w he)
  unfold maxLen at hl
  clear he hs hp
  go_enter Tryz.func5, Tryz.ntmps5
  go_wp2_with fail
  go_loopw [3, 11] (fun v i wr => ∃ (k : Nat) (m : Int), k ≤ ls.length ∧ i = .int .i64 k ∧ v = .int .i64 m ∧ w = wr) (fun _ i _ => ls.length - (intOf i).toNat)
  case atStart => exact ⟨0, 0, Nat.zero_le _, rfl, rfl, rfl⟩
  case round =>
    obtain ⟨k, m, hk, rfl, rfl, rfl⟩ := hrel
    by_cases hlt : k < ls.length
    · obtain ⟨n, q, c, ws, hg⟩ : ∃ n q c ws, Hid (ls.getD k default = ⟨n, q, c, ws⟩) := ⟨_, _, _, _, rfl⟩
      obtain ⟨b, o, rfl, hc0⟩ : ∃ b o, p = some ⟨b, o, none⟩ ∧ w.cell? ⟨b, o + k, none⟩ = some (.slice q ws.length c) := by
        rcases HP.out.1 with h | ⟨b, o, e1, e2, e3⟩
        · rw [h] at hlt; exact absurd hlt (by simp)
        · have := e3 k hlt
          rw [hg.out] at this
          exact ⟨b, o, e1, this⟩
      have hsm := HS.out k hlt
      have hst := HP.out.2 k hlt
      rw [hg.out] at hsm hst
      have C := size_any q c ws w hsm.1 hsm.2 hst
      obtain ⟨t, ht⟩ : ∃ t, wrap64 (sumL ws) = t := ⟨_, rfl⟩
      rw [ht] at C
      have C1 := Lib.hid C
      clear C hsm hst ht
      go_wp2_with fail
      refine C1.out.mono ?_
      rintro e w' ⟨rfl, rfl⟩
      go_wp2_with fail
      exact ⟨⟨k + 1, _, by omega, by go_num, rfl, trivial⟩, by simp [intOf]; omega⟩
    · obtain rfl : k = ls.length := by omega
      by_cases hm : 4000 < m
      · go_wp2_with fail
        refine C0.out.mono ?_
        rintro e w1 ⟨rfl, hb⟩
        have B := Lib.hid hb
        clear hb
        go_wp2_with fail
        go_ret
        exact ⟨rfl, B.out⟩
      · by_cases h60 : 60 < (ls.length : Int) ∧ (ls.length : Int) ≤ 400
        · obtain ⟨h60, h400⟩ := h60
          go_wp2_with fail
          refine C0.out.mono ?_
          rintro e w1 ⟨rfl, hb⟩
          have B := Lib.hid hb
          clear hb
          go_wp2_with fail
          go_ret
          exact ⟨rfl, B.out⟩
        · by_cases h6 : (ls.length : Int) ≤ 60
          · clear h60
            go_wp2_with fail
            refine (P.out.1 w p cap HP.out HE.out).mono ?_
            rintro e w1 ⟨rfl, hb⟩
            have B1 := Lib.hid hb
            clear hb C0
            go_wp2_with fail
            refine (P.out.2 w1 p cap (HP.out.below B1.out)).mono ?_
            rintro e w2 ⟨rfl, hb⟩
            have B2 : Hid (Below w.heap.size w w2) := B1.out.trans (hb.mono B1.out.size)
            have K2' := K2.new w2 (.string x) (.int .i64 ex) 32
            have KK := Lib.hid K2'
            have B3 : Hid (Below w.heap.size w (w2.alloc (.cells #[.string x, .int .i64 ex] 32))) := B2.out.trans ((below_alloc1 _ _).mono B2.out.size)
            clear hb B1 B2 K2'
            go_wp2_with fail
            refine (SC.out _ (HE.out.next B3.out)).mono ?_
            rintro e w3 ⟨rfl, hb⟩
            have B4 : Hid (Below w.heap.size w w3) := B3.out.trans (hb.mono B3.out.size)
            obtain ⟨_, k0, k1⟩ := KK.out.keep hb
            clear hb B3 KK
            go_wp2_with fail
            go_ret
            exact ⟨rfl, B4.out⟩
          · have h400 : 400 < (ls.length : Int) := by omega
            have h60' : 60 < (ls.length : Int) := by omega
            clear h60 h6
            by_cases h500 : 500 < (ls.length : Int)
            · go_wp2_with fail
              refine C0.out.mono ?_
              rintro e w1 ⟨rfl, hb⟩
              have B := Lib.hid hb
              clear hb
              go_wp2_with fail
              go_ret
              exact ⟨rfl, B.out⟩
            · go_wp2_with fail
              refine (P.out.1 w p cap HP.out HE.out).mono ?_
              rintro e w1 ⟨rfl, hb⟩
              have B1 := Lib.hid hb
              clear hb C0
              go_wp2_with fail
              refine (P.out.2 w1 p cap (HP.out.below B1.out)).mono ?_
              rintro e w2 ⟨rfl, hb⟩
              have B2 : Hid (Below w.heap.size w w2) := B1.out.trans (hb.mono B1.out.size)
              have K2' := K2.new w2 (.string x) (.int .i64 ex) 32
              have KK := Lib.hid K2'
              have B3 : Hid (Below w.heap.size w (w2.alloc (.cells #[.string x, .int .i64 ex] 32))) := B2.out.trans ((below_alloc1 _ _).mono B2.out.size)
              clear hb B1 B2 K2'
              go_wp2_with fail
              refine (SC.out _ (HE.out.next B3.out)).mono ?_
              rintro e w3 ⟨rfl, hb⟩
              have B4 : Hid (Below w.heap.size w w3) := B3.out.trans (hb.mono B3.out.size)
              obtain ⟨_, k0, k1⟩ := KK.out.keep hb
              clear hb B3 KK
              go_wp2_with fail
              go_ret
              exact ⟨rfl, B4.out⟩
end Go.Proofs.YtmfhpddeclggfaaGreatDoor
