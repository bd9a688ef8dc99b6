import Derived.Test.YtmfhpddeclggfaaGreatDoorText
import Derived.WalkKit
import Derived.LoopTactic
import Derived.WalkSpells
import Derived.WalkLawsBesides
import Derived.Lib.Hide
import Derived.BigQuiet
import Derived.IntWalk
import Derived.WalkSmall
import Derived.StillTailTactics
import Derived.Lib.SlBytesConst
import Derived.Deep.RegionLaw
import Derived.Deep.QuietTactic
namespace Go.Proofs.YtmfhpddeclggfaaGreatDoor
open Go.RowKit
theorem hex_ext (d : Nat) (hd : d < 16) : hexs.extract d (d + 1) = bs [hx d] := by
  have : ∀ d : Fin 16, hexs.extract d.val (d.val + 1) = bs [hx d.val] := by decide +kernel
  exact this ⟨d, hd⟩
set_option maxRecDepth 100000 in
set_option maxHeartbeats 400000 in
theorem hex_any (z : Int) (d : Nat) (w : World) (hz : z = d) (hd : d < 16) :
    Calls Tryz.prog 78 #[.int .i64 z] w fun e w' => e = .returned (.string (bs [hx d])) ∧ w' = w := by
  subst hz
  have HE := Lib.hid (hex_ext d hd)
  go_enter Tryz.func78, Tryz.ntmps78
  go_wp2
  go_ret
  exact ⟨ret_str HE.out, rfl⟩
theorem hexN (d : Nat) (w : World) (hd : d < 16) : Calls Tryz.prog 78 #[.int .i64 (d : Int)] w fun e w' => e = .returned (.string (bs [hx d])) ∧ w' = w := hex_any _ d w rfl hd
def wdRes (o : Option (List UInt8)) (e : Int) : Value := match o with
  | some l => .agg #[.string (bs l), .int .i64 0]
  | none => .agg #[.string ⟨#[]⟩, .int .i64 e]
set_option maxRecDepth 100000 in
set_option maxHeartbeats 1000000 in
theorem rText (s : ByteArray) (w : World) :
    Calls Tryz.prog 23 #[.string s] w fun e w' => e = .returned (wdRes (if 50 < s.size then none else some (txt s.data.toList)) 2) ∧ Below w.heap.size w w' := by
  by_cases h50 : 50 < s.size
  · go_enter Tryz.func23, Tryz.ntmps23
    go_wp2
    refine bodyPost_ret (v := .agg #[.string ⟨#[]⟩, .int .i64 2]) (by simp [results, Tryz.results23, go_sem]) rfl ⟨rfl, below_alloc1 _ _⟩
  · have h50' : s.size ≤ 50 := by omega

    clear h50
    go_enter Tryz.func23, Tryz.ntmps23
    go_wp2
    go_loopw [3, 4] (fun v i wr => ∃ (k : Nat), k ≤ s.size ∧ i = .int .i64 k ∧ v = .string (bs (txt (s.data.toList.take k))) ∧ Hid (∃ n, wr = (w.alloc (.cells #[.string ⟨#[]⟩, .int .i64 0] 32)).drewN n)) (fun _ i _ => s.size - (intOf i).toNat)
    case atStart => exact ⟨0, Nat.zero_le _, rfl, rfl, 0, rfl⟩
    case round =>
      obtain ⟨k, hk, rfl, rfl, hw⟩ := hrel
      by_cases hlt : k < s.size
      · have hl : (bs (txt (s.data.toList.take k))).size ≤ 1000 := by rw [bs_size, txt_length]; simp; omega
        have hl1 : ∀ d, (bs [hx d]).size ≤ 1 := fun d => Nat.le_refl _
        have lt := s[k].toNat_lt
        have b1 : s[k].toNat / 16 < 16 := by omega
        have b2 : s[k].toNat % 16 < 16 := by omega
        have q0 : IntKind.i64.wrap (s[k].toNat : Int) = s[k].toNat := IntWalk.i64_in _ (by omega)
        have q1 : IntKind.i64.wrap ((s[k].toNat : Int) / 16) = (s[k].toNat : Int) / 16 := IntWalk.i64_in _ (by omega)
        have e1 : (s[k].toNat : Int) / 16 = ((s[k].toNat / 16 : Nat) : Int) := by omega
        have e2 : (s[k].toNat : Int) % 16 = ((s[k].toNat % 16 : Nat) : Int) := by omega
        have E1 := Lib.hid e1
        have E2 := Lib.hid e2
        clear e1 e2
        clear lt
        have f1 : ¬ (9223372036854775807 < (bs (txt (s.data.toList.take k))).size + (bs [hx (s[k].toNat / 16)]).size) := by rw [bs_size [_]]; simp only [List.length_singleton]; omega
        have f2 : ¬ (9223372036854775807 < (bs (txt (s.data.toList.take k))).size + (bs [hx (s[k].toNat / 16)]).size + (bs [hx (s[k].toNat % 16)]).size) := by rw [bs_size [_], bs_size [_]]; simp only [List.length_singleton]; omega
        clear hl hl1
        go_wp2_with fail
        go_quiet ((go_at_call 78; first | (with_reducible exact Calls.quiet_of_same (hex_any ((s[k].toNat : Int) / 16) (s[k].toNat / 16) _ E1.out b1)) | (with_reducible exact Calls.quiet_of_same (hex_any ((s[k].toNat : Int) % 16) (s[k].toNat % 16) _ E2.out b2))))
        go_wp2
        go_roundw
        case rel =>
          refine ⟨k + 1, by omega, by go_num, congrArg Value.string ?_, ?_⟩
          · rw [take_snoc s k hlt, txt_snoc, bs_append, bs_append, List.append_assoc]; rfl
          · obtain ⟨n, rfl⟩ := hw.out
            exact ⟨_, World.drewN_drewN _ _ _⟩
        case measure => simp [intOf]; omega
      · obtain ⟨n, rfl⟩ := hw.out
        obtain rfl : k = s.size := by omega
        go_wp2
        refine bodyPost_ret (v := .agg #[.string (bs (txt (s.data.toList.take s.size))), .int .i64 0]) (by simp [results, Tryz.results23, go_sem]) rfl ⟨?_, ?_⟩
        · rw [List.take_of_length_le (by simp)]; rfl
        · exact ((below_drewN (below_alloc1 _ _) n).setCell (p := ⟨w.heap.size, 0, none⟩) (Nat.le_refl _) _).setCell (p := ⟨w.heap.size, 1, none⟩) (Nat.le_refl _) _
end Go.Proofs.YtmfhpddeclggfaaGreatDoor
