import Derived.Test.YtmfhpddeclggfaaGreatDoorLaws2
import Derived.WalkKit
import Derived.LoopTactic
import Derived.WalkSpells
import Derived.WalkLawsBesides
import Derived.Lib.Hide
import Derived.BigQuiet
import Derived.StillTailTactics
import Derived.Lib.SlBytesConst
import Derived.Deep.RegionLaw
import Derived.Deep.QuietTactic
namespace Go.Proofs.YtmfhpddeclggfaaGreatDoor
open Go.RowKit
def txRes (s : ByteArray) : Value := if 50 < s.size then .tuple #[.string ⟨#[]⟩, .int .i64 2] else .tuple #[.string (bs (txt s.data.toList)), .int .i64 0]
set_option maxRecDepth 100000 in
set_option maxHeartbeats 1000000 in
theorem sText (s : ByteArray) (w : World) :
    Calls Tryz.prog 22 #[.string s] w fun e w' => e = .returned (txRes s) ∧ Below w.heap.size w w' := by
  by_cases h50 : 50 < s.size
  · go_enter Tryz.func22, Tryz.ntmps22
    go_wp2
    go_ret2
    exact ⟨by unfold txRes; rw [if_pos h50]; rfl, Below.refl _ _⟩
  · have kc := fun (w : World) (C : Array Value) (n c : Nat) => Lib.run_convert_bytes_const (P := Tryz.prog) w 106 5 C n c Tryz.underlying106 Tryz.underlying5
    have h50' : s.size ≤ 50 := by omega
    have HR : Hid (txRes s = .tuple #[.string (bs (txt s.data.toList)), .int .i64 0]) := by unfold Hid txRes; rw [if_neg h50]
    clear h50
    obtain ⟨i0, hi, hz0, hz1, hz2⟩ := info_parts info5
    have HI := Lib.hid (And.intro hi (And.intro hz0 (And.intro hz1 hz2)))
    clear hi hz0 hz1 hz2
    go_enter Tryz.func22, Tryz.ntmps22
    go_wp2
    clear kc
    go_loopw [4, 13] (fun v i wr => ∃ (k : Nat), k ≤ s.size ∧ i = .int .i64 k ∧ Hid (OwnM wr w.heap.size 5 v (1 + 2 * k) (Lib.byteCells (txt (s.data.toList.take k)))) ∧ Hid (Below w.heap.size w wr)) (fun _ i _ => s.size - (intOf i).toNat)
    case atStart =>
      refine ⟨0, Nat.zero_le _, rfl, Or.inr ⟨w.heap.size, (1, 2), rfl, Nat.le_refl _, ?_, rfl⟩, below_alloc1 _ _⟩
      show (w.heap.push _)[w.heap.size]? = _
      simp
      rfl
    case round =>
      obtain ⟨k, hk, rfl, ho, hb⟩ := hrel
      by_cases hlt : k < s.size
      · have lt := s[k].toNat_lt
        have d1 : (0 : Int) ≤ (s[k].toNat : Int) / 16 := by omega
        have d2 : (s[k].toNat : Int) / 16 < 16 := by omega
        have d3 : (0 : Int) ≤ bits .and .u8 (s[k].toNat : Int) 15 := by rw [and15]; omega
        have d4 : bits .and .u8 (s[k].toNat : Int) 15 < 16 := by rw [and15]; omega
        have T1 := Lib.hid (hexs_at ((s[k].toNat : Int) / 16) (s[k].toNat / 16) (by omega) (by omega) (by rw [hexs_size]; omega))
        have T2 := Lib.hid (hexs_at (bits .and .u8 (s[k].toNat : Int) 15) (s[k].toNat % 16) (by rw [and15]) (by omega) (by rw [hexs_size]; omega))
        clear lt
        go_wp2_with fail
        go_region_law (refine step_append_ownM rfl (.tmp 16) (.tmp 27) 106 rfl w.heap.size 5 i0 (.int .u8 0) 1 Tryz.underlying106 HI.out.1 HI.out.2.1 HI.out.2.2.1 HI.out.2.2.2 rfl u4 (1 + 2 * k) _ rfl (ho.out.alloc _).drew ⟨wr.heap.size, 0, none⟩ 2 2 _ rfl rfl (by decide) (cells_new_drew _ _ _) (by simp [Value.oneCell']) (by unfold maxLen; omega) (by omega) (by have := hb.out.size; simp; omega) ?_; intro v' w1 h1 h2 h3)
        all_goals
          have H1 := Lib.hid h1
          have H3 := Lib.hid h3
          clear h1 h2 h3
          go_wp2
          go_roundw
          case rel =>
            refine ⟨k + 1, by omega, by go_num, OwnM.own ?_, (hb.out.trans ((below_alloc1 _ _).mono hb.out.size).drew).trans H3.out⟩
            have := H1.out
            rw [show 1 + 2 * (k + 1) = 1 + 2 * k + 2 from by omega, ← txt_step s k hlt _ _ T1.out T2.out]
            exact this
          case measure => simp [intOf]; omega
      · obtain rfl : k = s.size := by omega
        have hc := ho.out.str (P := Tryz.prog) 106 9 Tryz.underlying106 Tryz.underlying5 Tryz.underlying9
        rw [List.take_of_length_le (by simp)] at hc
        go_wp2
        go_ret2
        exact ⟨by rw [HR.out]; rfl, hb.out⟩
end Go.Proofs.YtmfhpddeclggfaaGreatDoor
