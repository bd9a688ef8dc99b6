import Derived.RangeFuncNested
import Derived.RangeFuncBound
import Derived.RangeFuncCalls
import Derived.RangeFuncLeaves
import Derived.Test.YtmfhpddeclggfaaGreatDoorDb
import Derived.RangeFuncBox
import Derived.Shelf.Abstract
import Derived.Shelf.RegionOpen
import Derived.OwnWalkIn
import Derived.TacticsInMore
import Derived.LoopNIn
import Derived.LoopIn
import Derived.Maps.AppendAt
import Derived.WalkKit
import Derived.LoopTactic
import Derived.WalkSpells
import Derived.WalkLawsBesides
import Derived.Lib.Hide
import Derived.BigQuiet
import Derived.IntWalk
import Derived.Deep.DeepMust
import Derived.WalkSmall
import Derived.StillTailTactics
import Derived.Deep.RegionLaw
import Derived.Deep.QuietTactic
import Derived.Deep.Cut
import Derived.Deep.DeepCutAuto
import Derived.Deep.LoopGhost
import Derived.Laws.AppendOwn
namespace Go.Proofs.YtmfhpddeclggfaaGreatDoor
open Go.RowKit
/-! The law SheetCuts. -/
theorem rdw_len (x : ByteArray) : (rdw x).length ≤ 40 := by
  have hok : readErr x = 0 → (lineWs x).length ≤ 40 := fun h => (lineErr_ok (read_ok h).1).2.2.1
  unfold rdw
  generalize readErr x = er at hok ⊢
  generalize lineWs x = V at hok ⊢
  by_cases h : er = 0
  · rw [if_pos h]; exact hok h
  · rw [if_neg h]; exact Nat.zero_le _
theorem key_small {ps : List ByteArray} {gs : List GL} (h : gs.map glKey = (lnsOf ps).map rdKey) (j : Nat) : (gs.getD j default).ws.length ≤ maxLen := by
  rw [List.getD]
  cases hj : gs[j]? with
  | none => exact Nat.zero_le _
  | some g =>
    have h1 : glKey g ∈ (lnsOf ps).map rdKey := by rw [← h]; exact List.mem_map.2 ⟨g, List.mem_of_getElem? hj, rfl⟩
    obtain ⟨x, -, hx⟩ := List.mem_map.1 h1
    have h2 : rdw x = g.ws := congrArg Prod.snd hx
    have h3 := rdw_len x
    rw [h2] at h3
    show g.ws.length ≤ maxLen
    unfold maxLen; omega
set_option maxRecDepth 100000 in
set_option maxHeartbeats 4000000 in
theorem cuts_big (s t : ByteArray) (w : World) (he : Env w) (hs : s.size ≤ maxLen) (ht : t.size ≤ maxLen) (h : 4000 < s.size ∨ 500 < t.size) :
    Calls Tryz.prog 6 #[.string s, .string t] w fun e w' => e = .returned (.bool true) ∧ Below w.heap.size w w' := by
  have SN := Lib.hid (sanity_any w he)
  clear he
  unfold maxLen at hs ht
  by_cases h1 : 4000 < s.size
  · have h1' : (4000 : Int) < (s.size : Int) := by omega
    go_enter Tryz.func6, Tryz.ntmps6
    go_wp2_with fail
    refine SN.out.mono ?_
    rintro e w' ⟨rfl, hb⟩
    go_wp2_with fail
    go_ret
    exact ⟨rfl, hb⟩
  · have h1' : ¬ (4000 : Int) < (s.size : Int) := by omega
    have h2' : (500 : Int) < (t.size : Int) := by omega
    go_enter Tryz.func6, Tryz.ntmps6
    go_wp2_with fail
    refine SN.out.mono ?_
    rintro e w' ⟨rfl, hb⟩
    go_wp2_with fail
    go_ret
    exact ⟨rfl, hb⟩
set_option maxRecDepth 100000 in
set_option maxHeartbeats 8000000 in
theorem cuts_small (s t : ByteArray) (w : World) (he : Env w) (hs : ¬ 4000 < s.size) (ht : ¬ 500 < t.size) :
    Calls Tryz.prog 6 #[.string s, .string t] w fun e w' => e = .returned (.bool true) ∧ Below w.heap.size w w' := by
  have HE := Lib.hid he
  have h1' : ¬ (4000 : Int) < (s.size : Int) := by omega
  have h2' : ¬ (500 : Int) < (t.size : Int) := by omega
  have HSZ : Hid (s.size ≤ 1000000) := by unfold Hid; omega
  have HTZ : Hid (t.size ≤ 1000000) := by unfold Hid; omega
  have SL := Lib.hid (sLines s w HSZ.out he)
  have HPL : Hid ((partsN s).length ≤ 1000000) := by have := partsN_len s; unfold Hid; omega
  clear he
  go_enter Tryz.func6, Tryz.ntmps6
  go_wp2_with fail
  refine SL.out.mono ?_
  rintro e w1 ⟨vl, vo, rfl, hb, hln⟩
  obtain ⟨gs, q1, c1, r1, d1, k1, rfl, rfl, hl1, ho1⟩ := hln.lines
  have B1 := Lib.hid hb
  have K1 := Lib.hid k1
  have L1 := Lib.hid hl1
  have O1 := Lib.hid ho1
  have RL := Lib.hid (rLines s w1 HSZ.out)
  clear SL hb hln k1 hl1 ho1
  go_wp2_with fail
  refine RL.out.mono ?_
  rintro e w2 ⟨vl, vo, rfl, hb, hln⟩
  obtain ⟨ls, q2, c2, r2, d2, k2, rfl, rfl, hl2, ho2⟩ := hln.lines
  obtain ⟨os, hos⟩ : ∃ os, otsOf (partsN s) = os := ⟨_, rfl⟩
  have HLE : Hid (os.length ≤ 1000000) := by rw [← hos]; have := ot_len (partsN s); have := HPL.out; unfold Hid; omega
  have HGL : Hid (gs.length ≤ 1000001) := by have := gl_len K1.out; have := HPL.out; unfold Hid; omega
  rw [hos] at ho2 O1 ⊢
  have B2 : Hid (Below w1.heap.size w1 (w2.alloc (.cells #[.slice q2 ls.length c2, .slice r2 os.length d2] 59))) := hb.alloc hb.size _
  have KY2 := Lib.hid k2
  have Z2 := Lib.hid (K2.new w2 (.slice q2 ls.length c2) (.slice r2 os.length d2) 59)
  have L2 := Lib.hid (hl2.below (below_alloc1 w2 (.cells #[.slice q2 ls.length c2, .slice r2 os.length d2] 59)))
  have O2 := Lib.hid (ho2.below (below_alloc1 w2 (.cells #[.slice q2 ls.length c2, .slice r2 os.length d2] 59)))
  have BW2 : Hid (Below w.heap.size w (w2.alloc (.cells #[.slice q2 ls.length c2, .slice r2 os.length d2] 59))) := B1.out.trans (B2.out.mono B1.out.size)
  have L1' := Lib.hid (L1.out.below B2.out)
  have O1' := Lib.hid (O1.out.below B2.out)
  have SP := Lib.hid (sSpeaks t (w2.alloc (.cells #[.slice q2 ls.length c2, .slice r2 os.length d2] 59)) HTZ.out (HE.out.next BW2.out))
  obtain ⟨a, ha⟩ : ∃ a, (spk t.data.toList).getD 0 = a := ⟨_, rfl⟩
  obtain ⟨b, hbb⟩ : ∃ b, (spk t.data.toList).isSome = b := ⟨_, rfl⟩
  have RS := fun W => Lib.hid (rSpeaks t W HTZ.out)
  simp only [spRes, ha, hbb] at SP RS
  clear RL hb hln k2 hl2 ho2 B1 B2 L1 O1 ha hbb hos
  go_wp2_with fail
  refine SP.out.mono ?_
  rintro e w3 ⟨rfl, hb⟩
  have BW3 : Hid (Below w.heap.size w w3) := BW2.out.trans (hb.mono BW2.out.size)
  have Z3 := Lib.hid (Z2.out.keep hb)
  have L3 := Lib.hid (L2.out.below hb)
  have O3 := Lib.hid (O2.out.below hb)
  have M3 := Lib.hid (L1'.out.below hb)
  have N3 := Lib.hid (O1'.out.below hb)
  clear SP hb BW2 Z2 L2 O2 L1' O1'
  go_wp2_with fail
  refine (RS _).out.mono ?_
  rintro e w4 ⟨rfl, hb⟩
  have BW4 : Hid (Below w.heap.size w w4) := BW3.out.trans (hb.mono BW3.out.size)
  have Z4 := Lib.hid (Z3.out.keep hb)
  have L4 := Lib.hid (L3.out.below hb)
  have O4 := Lib.hid (O3.out.below hb)
  have M4 := Lib.hid (M3.out.below hb)
  have N4 := Lib.hid (N3.out.below hb)
  have SN := Lib.hid (sanity_any w4 (HE.out.next BW4.out))
  clear RS hb BW3 Z3 L3 O3 M3 N3
  go_wp2_with fail
  refine SN.out.mono ?_
  rintro e w5 ⟨rfl, hb⟩
  have BW5 : Hid (Below w.heap.size w w5) := BW4.out.trans (hb.mono BW4.out.size)
  have Z5 := Lib.hid (Z4.out.keep hb)
  have L5 := Lib.hid (L4.out.below hb)
  have O5 := Lib.hid (O4.out.below hb)
  have M5 := Lib.hid (M4.out.below hb)
  have N5 := Lib.hid (N4.out.below hb)
  have PS := Lib.hid (sPieces s w5 HSZ.out (HE.out.next BW5.out))
  have RP := fun W => Lib.hid (rPieces2 s W HSZ.out)
  obtain ⟨ps, hps⟩ : ∃ ps, partsN s = ps := ⟨_, rfl⟩
  rw [hps] at PS HPL
  simp only [hps] at RP
  clear SN hb BW4 Z4 L4 O4 M4 N4 hps
  go_wp2_with fail
  refine PS.out.mono ?_
  rintro e w6 ⟨x1, y1, rfl, hst1, hb⟩
  have BW6 : Hid (Below w.heap.size w w6) := BW5.out.trans (hb.mono BW5.out.size)
  have Z6 := Lib.hid (Z5.out.keep hb)
  have L6 := Lib.hid (L5.out.below hb)
  have O6 := Lib.hid (O5.out.below hb)
  have M6 := Lib.hid (M5.out.below hb)
  have N6 := Lib.hid (N5.out.below hb)
  have P6 := Lib.hid hst1
  clear PS hb BW5 Z5 L5 O5 M5 N5 hst1
  go_wp2_with fail
  refine (RP _).out.mono ?_
  rintro e w7 ⟨x2, y2, rfl, hst2, hb⟩
  have BW7 : Hid (Below w.heap.size w w7) := BW6.out.trans (hb.mono BW6.out.size)
  have Z7 := Lib.hid (Z6.out.keep hb)
  have L7 := Lib.hid (L6.out.below hb)
  have O7 := Lib.hid (O6.out.below hb)
  have M7 := Lib.hid (M6.out.below hb)
  have N7 := Lib.hid (N6.out.below hb)
  have ST := sameTexts x1 x2 y1 y2 ps ps w7 (by have := HPL.out; unfold maxLen; omega) (P6.out.below hb) hst2
  rw [sameTs_self] at ST
  have HST := Lib.hid ST
  clear RP hb BW6 Z6 L6 O6 M6 N6 P6 hst2 ST
  go_wp2_with fail
  refine HST.out.mono ?_
  rintro e w8 ⟨rfl, hb⟩
  have BW8 : Hid (Below w.heap.size w w8) := BW7.out.trans (hb.mono BW7.out.size)
  have Z8 := Lib.hid (Z7.out.keep hb)
  have O8 := Lib.hid (O7.out.below hb)
  have N8 := Lib.hid (N7.out.below hb)
  have z0 := Z8.out.2.1
  have z1 := Z8.out.2.2
  have SM := Lib.hid (sameLines q1 q2 c1 c2 gs ls w8 HGL.out (K1.out.trans KY2.out.symm) (key_small K1.out) (M7.out.below hb) (L7.out.below hb))
  clear HST hb BW7 Z7 L7 O7 M7 N7
  go_wp2_with fail
  refine SM.out.mono ?_
  rintro e w9 ⟨rfl, hb⟩
  have BW9 : Hid (Below w.heap.size w w9) := BW8.out.trans (hb.mono BW8.out.size)
  have Z9 := Lib.hid (Z8.out.keep hb)
  have z2 := Z9.out.2.1
  have z3 := Z9.out.2.2
  have ST := sameTexts r1 r2 d1 d2 os os w9 (by have := HLE.out; unfold maxLen; omega) (N8.out.below hb) (O8.out.below hb)
  rw [sameTs_self] at ST
  have HST := Lib.hid ST
  clear SM hb BW8 Z8 O8 N8 ST z0 z1
  go_wp2_with fail
  refine HST.out.mono ?_
  rintro e w10 ⟨rfl, hb⟩
  have BW10 : Hid (Below w.heap.size w w10) := BW9.out.trans (hb.mono BW9.out.size)
  clear HST hb BW9 Z9 z2 z3
  go_wp2_with fail
  go_ret
  exact ⟨rfl, BW10.out⟩
theorem sheetCuts_law (s t : ByteArray) (w : World) (he : Env w) (hs : s.size ≤ maxLen) (ht : t.size ≤ maxLen) :
    Calls Tryz.prog 6 #[.string s, .string t] w fun e w' => e = .returned (.bool true) ∧ Below w.heap.size w w' := by
  by_cases h : 4000 < s.size ∨ 500 < t.size
  · exact cuts_big s t w he hs ht h
  · simp only [not_or] at h
    exact cuts_small s t w he h.1 h.2
end Go.Proofs.YtmfhpddeclggfaaGreatDoor
