import Derived.Test.YtmfhpddeclggfaaGreatDoorOverlay
import Derived.WalkKit
import Derived.LoopTactic
import Derived.WalkSpells
import Derived.WalkLawsBesides
import Derived.Lib.Hide
import Derived.BigQuiet
import Derived.IntWalk
import Derived.Deep.DeepMust
import Derived.WalkSmall
import Derived.StillTailTactics
import Derived.Lib.SlBytesConst
import Derived.Deep.RegionLaw
import Derived.Deep.QuietTactic
namespace Go.Proofs.YtmfhpddeclggfaaGreatDoor
open Go.RowKit
theorem sn1 : rdRes [45, 48] = .tuple #[.int .i64 0, .int .i64 7] := by kernel_rfl
theorem sn2 : txRes ⟨#[97, 98]⟩ = .tuple #[.string ⟨#[61, 54, 49, 54, 50]⟩, .int .i64 0] := by kernel_rfl
theorem sn3 : rtRes (rdText [61, 54]) = .tuple #[.string ⟨#[]⟩, .int .i64 7] := by kernel_rfl
theorem sn4 : ovRes [⟨#[97, 63, 99]⟩, ⟨#[97, 98, 63]⟩] = .tuple #[.string ⟨#[97, 98, 99]⟩, .bool true] := by kernel_rfl
theorem sn5 : ovRes [⟨#[97, 63]⟩, ⟨#[98, 63]⟩] = .tuple #[.string ⟨#[]⟩, .bool false] := by kernel_rfl
theorem sn6 : spRes (spk [64, 49, 50, 32, 51, 32, 120]) = .tuple #[.int .i64 12, .bool true] := by kernel_rfl
theorem sn7 : spRes (spk [64, 49, 50]) = .tuple #[.int .i64 0, .bool false] := by kernel_rfl
theorem sn8 : bs (Lib.itoa (-40)) = ⟨#[45, 52, 48]⟩ := by decide +kernel
theorem sn9 : chk [] = 0 := by decide +kernel
theorem sn10 : chk [97] = 97 := by decide +kernel
def sanLs : List GL := [⟨1, none, 0, [⟨#[111, 97, 107]⟩, ⟨#[55]⟩]⟩, ⟨2, none, 0, []⟩]
/-- The text of the sheet that is tried. -/
def sanT : ByteArray := bs (waText sanLs)
def sanTL : List UInt8 := [64, 49, 32, 50, 32, 111, 97, 107, 32, 55, 32, 52, 55, 57, 54, 10]
theorem sn11 : waErr sanLs = 0 := by decide +kernel
theorem wa_plain (a b : GL) (p q : Option Addr) (c d : Nat) : waRes [⟨a.n, p, c, a.ws⟩, ⟨b.n, q, d, b.ws⟩] = waRes [a, b] := rfl
theorem strs_two (W : World) (a b : ByteArray) (e : TypeId) : StrsAt (W.alloc (.cells #[.string a, .string b] e)) (some ⟨W.heap.size, 0, none⟩) [a, b] := by
  refine Or.inr ⟨W.heap.size, 0, rfl, by simp, fun j hj => ?_⟩
  rw [Nat.zero_add]
  match j, hj with
  | 0, _ => exact new_at W _ _ _ _ rfl
  | 1, _ => exact new_at W _ _ _ _ rfl
def sanW (w : World) : World := ((w.alloc (.cells #[.string ⟨#[111, 97, 107]⟩, .string ⟨#[55]⟩] 9)).alloc (.cells #[] 9)).alloc (.cells #[.slice (some ⟨w.heap.size, 0, none⟩) 2 2, .slice (some ⟨w.heap.size + 1, 0, none⟩) 0 0] 37)
theorem sanW_below (w : World) : Below w.heap.size w (sanW w) := by
  unfold sanW
  exact ((below_alloc1 w _).alloc (by simp) _).alloc (by simp; omega) _
theorem sanW_size (w : World) : (sanW w).heap.size = w.heap.size + 3 := by simp [sanW]
def sanQ (w : World) : List GL := [⟨0, some ⟨w.heap.size, 0, none⟩, 2, [⟨#[111, 97, 107]⟩, ⟨#[55]⟩]⟩, ⟨0, some ⟨w.heap.size + 1, 0, none⟩, 0, []⟩]
theorem sanW_lists (w : World) : ListsAt (sanW w) (some ⟨w.heap.size + 1 + 1, 0, none⟩) (sanQ w) := by
  have hs : ((w.alloc (.cells #[.string ⟨#[111, 97, 107]⟩, .string ⟨#[55]⟩] 9)).alloc (.cells #[] 9)).heap.size = w.heap.size + 1 + 1 := by simp
  refine ⟨Or.inr ⟨_, 0, rfl, by rw [sanW_size]; omega, fun j hj => ?_⟩, fun j hj => ?_⟩
  · have h : ∀ k u, (#[Value.slice (some ⟨w.heap.size, 0, none⟩) 2 2, .slice (some ⟨w.heap.size + 1, 0, none⟩) 0 0] : Array Value).toList[k]? = some u → (sanW w).cell? ⟨w.heap.size + 1 + 1, k, none⟩ = some u := fun k u h => by
      have := new_at ((w.alloc (.cells #[.string ⟨#[111, 97, 107]⟩, .string ⟨#[55]⟩] 9)).alloc (.cells #[] 9)) _ 37 k u h
      rw [hs] at this
      exact this
    rw [Nat.zero_add]
    match j, hj with
    | 0, _ => exact h 0 _ rfl
    | 1, _ => exact h 1 _ rfl
  · match j, hj with
    | 0, _ =>
      have h1 := strs_two w ⟨#[111, 97, 107]⟩ ⟨#[55]⟩ 9
      exact ((h1.below (below_alloc1 _ _)).below (below_alloc1 _ _))
    | 1, _ => exact Or.inl rfl
theorem sanQ_res (w : World) : waRes (numbered (sanQ w)) = .tuple #[.string sanT, .int .i64 0] := by
  have h : waRes (numbered (sanQ w)) = waRes sanLs := rfl
  rw [h, waRes, if_pos sn11]
  rfl
theorem sanSheet (w : World) (he : Env w) :
    Calls Tryz.prog 38 #[.slice (some ⟨w.heap.size + 1 + 1, 0, none⟩) 2 2] (sanW w) fun e w' => e = .returned (.tuple #[.string sanT, .int .i64 0]) ∧ Below w.heap.size w w' := by
  have h := sSheet_ok (some ⟨w.heap.size + 1 + 1, 0, none⟩) 2 (sanQ w) (sanW w) (by show 2 ≤ 400; decide) (fun j hj => match j, hj with
    | 0, _ => ⟨by show 2 ≤ maxLen; unfold maxLen; decide, fun k => match k with
      | 0 => by show (3 : Nat) ≤ maxLen; unfold maxLen; decide
      | 1 => by show (1 : Nat) ≤ maxLen; unfold maxLen; decide
      | k + 2 => by show (0 : Nat) ≤ maxLen; exact Nat.zero_le _⟩
    | 1, _ => ⟨Nat.zero_le _, fun k => Nat.zero_le _⟩) (sanW_lists w) (he.next (sanW_below w))
  rw [sanQ_res, show (sanQ w).length = 2 from rfl] at h
  exact h.mono fun e w' ⟨h1, h2⟩ => ⟨h1, (sanW_below w).trans (h2.mono (by rw [sanW_size]; omega))⟩
/-- What putting the two copies together leaves, as far as it is asked for. -/
def BookP (w : World) (e : Ending) (w' : World) : Prop :=
  Below w.heap.size w w' ∧ ∃ (b o c1 c2 c3 k1 k2 : Nat) (pc pg q1 q2 : Option Addr), e = .returned (.tuple #[.agg #[.slice (some ⟨b, o, none⟩) 2 c1, .slice pc 0 c2, .slice pg 0 c3], .int .i64 0]) ∧ b < w'.heap.size ∧
    w'.cell? ⟨b, o + 2, none⟩ = some (.slice q1 1 k1) ∧ w'.cell? ⟨b, o + 6, none⟩ = some (.slice q2 2 k2)
set_option maxRecDepth 100000 in
set_option maxHeartbeats 1000000 in
theorem sanity_of (w : World) (he : Env w)
    (CC : Hid (∀ (W : World) (p : Option Addr) (cap : Nat), Env W → StrsAt W p [sanT, sanT.extract 1 sanT.size] → Calls Tryz.prog 53 #[.slice p 2 cap] W (BookP W))) :
    Calls Tryz.prog 19 #[] w fun e w' => e = .returned (.bool true) ∧ Below w.heap.size w w' := by
  have HE := Lib.hid he
  have C1 := sReadInt ⟨#[45, 48]⟩ w (by decide) he
  rw [show (ByteArray.mk #[45, 48]).data.toList = [45, 48] from rfl, sn1] at C1
  have D1 := Lib.hid C1
  clear he C1
  go_enter Tryz.func19, Tryz.ntmps19
  go_wp2_with fail
  refine D1.out.mono ?_
  rintro e w1 ⟨rfl, hb⟩
  have B1 := Lib.hid hb
  clear D1 hb
  go_wp2_with fail
  have C2 := sText ⟨#[97, 98]⟩ w1
  rw [sn2] at C2
  refine C2.mono ?_
  rintro e w2 ⟨rfl, hb⟩
  have B2 : Hid (Below w.heap.size w w2) := B1.out.trans (hb.mono B1.out.size)
  clear C2 hb B1
  go_wp2_with fail
  have C3 := sReadTextAll ⟨#[61, 54]⟩ w2 (by decide)
  rw [show (ByteArray.mk #[61, 54]).data.toList = [61, 54] from rfl, sn3] at C3
  refine C3.mono ?_
  rintro e w3 ⟨rfl, hb⟩
  have B3 : Hid (Below w.heap.size w w3) := B2.out.trans (hb.mono B2.out.size)
  clear C3 hb B2
  go_wp2_with fail
  have C4 := sOverlay (some ⟨w3.heap.size, 0, none⟩) 2 [⟨#[97, 63, 99]⟩, ⟨#[97, 98, 63]⟩] (w3.alloc (.cells #[.string ⟨#[97, 63, 99]⟩, .string ⟨#[97, 98, 63]⟩] 9)) (by decide) (fun j hj => match j, hj with | 0, _ => by decide | 1, _ => by decide) (strs_two _ _ _ _)
  rw [sn4, World.size_alloc] at C4
  refine C4.mono ?_
  rintro e w4 ⟨rfl, hb⟩
  have B4 : Hid (Below w.heap.size w w4) := (B3.out.trans ((below_alloc1 _ _).mono B3.out.size)).trans (hb.mono (Nat.le_succ_of_le B3.out.size))
  clear C4 hb B3
  go_wp2_with fail
  have C5 := sOverlay (some ⟨w4.heap.size, 0, none⟩) 2 [⟨#[97, 63]⟩, ⟨#[98, 63]⟩] (w4.alloc (.cells #[.string ⟨#[97, 63]⟩, .string ⟨#[98, 63]⟩] 9)) (by decide) (fun j hj => match j, hj with | 0, _ => by decide | 1, _ => by decide) (strs_two _ _ _ _)
  rw [sn5, World.size_alloc] at C5
  refine C5.mono ?_
  rintro e w5 ⟨rfl, hb⟩
  have B5 : Hid (Below w.heap.size w w5) := (B4.out.trans ((below_alloc1 _ _).mono B4.out.size)).trans (hb.mono (Nat.le_succ_of_le B4.out.size))
  clear C5 hb B4
  go_wp2_with fail
  have C6 := sSpeaks ⟨#[64, 49, 50, 32, 51, 32, 120]⟩ w5 (by decide) (HE.out.next B5.out)
  rw [show (ByteArray.mk #[64, 49, 50, 32, 51, 32, 120]).data.toList = [64, 49, 50, 32, 51, 32, 120] from rfl, sn6] at C6
  refine C6.mono ?_
  rintro e w6 ⟨rfl, hb⟩
  have B6 : Hid (Below w.heap.size w w6) := B5.out.trans (hb.mono B5.out.size)
  clear C6 hb B5
  go_wp2_with fail
  have C7 := sSpeaks ⟨#[64, 49, 50]⟩ w6 (by decide) (HE.out.next B6.out)
  rw [show (ByteArray.mk #[64, 49, 50]).data.toList = [64, 49, 50] from rfl, sn7] at C7
  refine C7.mono ?_
  rintro e w7 ⟨rfl, hb⟩
  have B7 : Hid (Below w.heap.size w w7) := B6.out.trans (hb.mono B6.out.size)
  clear C7 hb B6
  go_wp2_with fail
  have C8 := sInt (-40) w7 (i64_small (by decide) (by decide)) (HE.out.next B7.out)
  rw [sn8] at C8
  refine C8.mono ?_
  rintro e w8 ⟨rfl, hb⟩
  have B8 : Hid (Below w.heap.size w w8) := B7.out.trans (hb.mono B7.out.size)
  clear C8 hb B7
  go_wp2_with fail
  have C9 := sCheck ⟨#[]⟩ w8 (by decide)
  rw [show (ByteArray.mk #[]).data.toList = [] from rfl, sn9] at C9
  refine C9.mono ?_
  rintro e w' ⟨rfl, rfl⟩
  clear C9
  go_wp2_with fail
  have C10 := sCheck ⟨#[97]⟩ w' (by decide)
  rw [show (ByteArray.mk #[97]).data.toList = [97] from rfl, sn10] at C10
  refine C10.mono ?_
  rintro e w9 ⟨rfl, rfl⟩
  clear C10
  go_wp2_with fail
  have C11 := sanSheet w9 (HE.out.next B8.out)
  refine C11.mono ?_
  rintro e w10 ⟨rfl, hb⟩
  have B10 : Hid (Below w.heap.size w w10) := B8.out.trans (hb.mono B8.out.size)
  clear C11 hb B8
  obtain ⟨T, hT⟩ : ∃ T, Hid (sanT = T) := ⟨_, rfl⟩
  rw [hT.out]
  have hsz : T.size = 26 := by rw [← hT.out]; decide +kernel
  go_wp2_with fail
  have C12 := CC.out (w10.alloc (.cells #[.string T, .string (T.extract 1 26)] 9)) (some ⟨w10.heap.size, 0, none⟩) 2 ((HE.out.next B10.out).next (below_alloc1 _ _)) (by rw [hT.out, hsz]; exact strs_two _ _ _ _)
  refine C12.mono ?_
  rintro e w11 ⟨hb, b, o, c1, c2, c3, k1, k2, pc, pg, q1, q2, rfl, hbl, hq1, hq2⟩
  have B11 : Hid (Below w.heap.size w w11) := (B10.out.trans ((below_alloc1 _ _).mono B10.out.size)).trans (hb.mono (by rw [World.size_alloc]; exact Nat.le_succ_of_le B10.out.size))
  have hA := below_alloc1 w11 (.cells #[.slice (some ⟨b, o, none⟩) 2 c1, .slice pc 0 c2, .slice pg 0 c3] 78)
  have g1 : (w11.alloc (.cells #[.slice (some ⟨b, o, none⟩) 2 c1, .slice pc 0 c2, .slice pg 0 c3] 78)).cell? ⟨b, o + 2, none⟩ = some (.slice q1 1 k1) := by rw [hA.cell (p := ⟨b, o + 2, none⟩) hbl]; exact hq1
  have g2 : (w11.alloc (.cells #[.slice (some ⟨b, o, none⟩) 2 c1, .slice pc 0 c2, .slice pg 0 c3] 78)).cell? ⟨b, o + 6, none⟩ = some (.slice q2 2 k2) := by rw [hA.cell (p := ⟨b, o + 6, none⟩) hbl]; exact hq2
  clear C12 hb B10 hq1 hq2 hbl hA hsz
  go_wp2_with fail
  go_ret
  exact ⟨rfl, B11.out.alloc B11.out.size _⟩
end Go.Proofs.YtmfhpddeclggfaaGreatDoor
