import Derived.Test.YtmfhpddeclggfaaGreatDoorShown
import Derived.WalkKit
import Derived.LoopTactic
import Derived.WalkSpells
import Derived.WalkLawsBesides
import Derived.Lib.Hide
import Derived.BigQuiet
import Derived.IntWalk
import Derived.Deep.DeepMust
import Derived.WalkSmall
import Derived.StillTailTactics
import Derived.Lib.SlBytesConst
import Derived.Deep.RegionLaw
import Derived.Deep.QuietTactic
namespace Go.Proofs.YtmfhpddeclggfaaGreatDoor
open Go.RowKit
theorem zero166_list : Tryz.zeroCells166.toList = List.replicate 256 (.int .i64 0) := by kernel_rfl
theorem zero166 (v : UInt8) : Tryz.zeroCells166.toList[v.toNat]? = some (.int .i64 0) := by
  rw [zero166_list, List.getElem?_replicate, if_pos v.toNat_lt]
theorem und106 : Tryz.prog.underlying 106 = some (.slice 5) := by kernel_rfl
theorem make5 (u : World) (n : Nat) (h : n ≤ 1000000) : (Instr.makeSlice 106 (.int .i64 (n : Int)) (.int .i64 (n : Int))).run Tryz.prog u = .ok (.slice (some ⟨u.heap.size, 0, none⟩) n n) (u.alloc (.cells (madeCells #[.int .u8 0] n) 5)) := by
  have hi := info5
  cases h0 : Tryz.prog.info? 5 with
  | none => rw [h0] at hi; cases hi
  | some i =>
    rw [h0] at hi
    simp only [Option.map_some, Option.some.injEq, Prod.mk.injEq] at hi
    obtain ⟨h1, h2, h3⟩ := hi
    have := run_make (P := Tryz.prog) u 106 5 i _ und106 h0 h1 .i64 .i64 n n (by omega) (Int.le_refl _) (by rw [h3]; omega) (by omega)
    rw [h2] at this
    simpa [Value.cells] using this
theorem new_at (w : World) (C : Array Value) (e : TypeId) (o : Nat) (u : Value) (h : C.toList[o]? = some u) : (w.alloc (.cells C e)).cell? ⟨w.heap.size, o, none⟩ = some u := by
  have h2 := cells_new w C e o u h
  rw [show (⟨w.heap.size, 0, none⟩ : Addr).add o = ⟨w.heap.size, o, none⟩ from by simp [Addr.add]; omega] at h2
  exact h2
theorem made_at (n o : Nat) (h : o < n) : (madeCells #[.int .u8 0] n).toList[o]? = some (.int .u8 0) := by
  rw [toList_madeCells_one, List.getElem?_replicate, if_pos h]
/-- How the world stands while texts are laid over each other. -/
structure OV (w W : World) (ts : List ByteArray) (n j : Nat) : Prop where
  bel : Below w.heap.size w W
  size : w.heap.size + 1 < W.heap.size
  tally : ∀ v : UInt8, W.cell? ⟨w.heap.size, v.toNat, none⟩ = some (.int .i64 0)
  fr0 : ∀ o, W.frozen? ⟨w.heap.size, o, none⟩ = false
  fr1 : ∀ o, W.frozen? ⟨w.heap.size + 1, o, none⟩ = false
  row : ∀ o, o < n → W.cell? ⟨w.heap.size + 1, o, none⟩ = some (.int .u8 (if o < j then lastB (colOf ts o) else 0).toNat)
theorem OV.start (w : World) (ts : List ByteArray) (n : Nat) : OV w ((w.alloc (.cells Tryz.zeroCells166 166)).alloc (.cells (madeCells #[.int .u8 0] n) 5)) ts n 0 := by
  have hb := below_alloc1 (w.alloc (.cells Tryz.zeroCells166 166)) (.cells (madeCells #[.int .u8 0] n) 5)
  have hs : (w.alloc (.cells Tryz.zeroCells166 166)).heap.size = w.heap.size + 1 := World.size_alloc _ _
  refine ⟨(below_alloc1 _ _).trans (hb.mono (by rw [hs]; omega)), by rw [World.size_alloc, hs]; omega, fun v => ?_, fun o => ?_, fun o => ?_, fun o ho => ?_⟩
  · rw [hb.cell (p := ⟨w.heap.size, v.toNat, none⟩) (by show w.heap.size < _; omega)]
    exact new_at w _ _ _ _ (zero166 v)
  · rw [hb.frozen (p := ⟨w.heap.size, o, none⟩) (by show w.heap.size < _; omega)]
    exact frozen_new w _ _ o
  · have := frozen_new (w.alloc (.cells Tryz.zeroCells166 166)) (madeCells #[.int .u8 0] n) 5 o
    rw [hs] at this
    exact this
  · have := new_at (w.alloc (.cells Tryz.zeroCells166 166)) (madeCells #[.int .u8 0] n) 5 o _ (made_at n o ho)
    rw [hs] at this
    rw [if_neg (Nat.not_lt_zero _)]
    exact this
theorem OV.ty {w W : World} {ts : List ByteArray} {n j : Nat} (h : OV w W ts n j) : TY W W w.heap.size fun _ => 0 :=
  ⟨Below.refl _ _, rfl, fun _ => rfl, fun _ _ => rfl, h.fr0, fun v => h.tally v⟩
theorem OV.next {w W W' : World} {ts : List ByteArray} {n j : Nat} (h : OV w W ts n j) (hj : j < n) (t : TY W W' w.heap.size fun _ => 0) :
    OV w (W'.setCell ⟨w.heap.size + 1, j, none⟩ (.int .u8 (lastB (colOf ts j)).toNat)) ts n (j + 1) := by
  have hr : ∀ o, o < n → W'.cell? ⟨w.heap.size + 1, o, none⟩ = some (.int .u8 (if o < j then lastB (colOf ts o) else 0).toNat) := fun o ho => by
    rw [t.far _ (by show w.heap.size + 1 ≠ w.heap.size; omega)]; exact h.row o ho
  refine ⟨(h.bel.trans t.bel).setCell (p := ⟨w.heap.size + 1, j, none⟩) (Nat.le_succ _) _, by have := t.size; have := h.size; simp; omega, fun v => ?_, fun o => ?_, fun o => ?_, fun o ho => ?_⟩
  · rw [World.cell?_setCell_other _ _ _ _ (fun e => by have := congrArg Addr.block e; simp at this)]
    exact t.cell v
  · rw [World.frozen?_setCell, t.fr]; exact h.fr0 o
  · rw [World.frozen?_setCell, t.fr]; exact h.fr1 o
  · by_cases e : j = o
    · subst e
      rw [if_pos (Nat.lt_succ_self _)]
      exact World.cell?_setCell_same _ _ _ (hr j hj)
    · rw [World.cell?_setCell_other _ _ _ _ (addr_ne e), hr o ho]
      by_cases h2 : o < j
      · rw [if_pos h2, if_pos (by omega)]
      · rw [if_neg h2, if_neg (by omega)]
set_option maxRecDepth 100000 in
set_option maxHeartbeats 1000000 in
theorem overlay_none (p : Option Addr) (cap : Nat) (w : World) :
    Calls Tryz.prog 50 #[.slice p 0 cap] w fun e w' => e = .returned (.tuple #[.string ⟨#[]⟩, .bool false]) ∧ w = w' := by
  go_enter Tryz.func50, Tryz.ntmps50
  go_wp2_with fail
  go_ret2
  exact ⟨rfl, rfl⟩
def ovVal (ts : List ByteArray) (n : Nat) : Value := if (List.range n).all (fun k => oneB (colOf ts k)) = true then .tuple #[.string (bs ((List.range n).map fun k => lastB (colOf ts k))), .bool true] else .tuple #[.string ⟨#[]⟩, .bool false]
set_option maxRecDepth 100000 in
set_option maxHeartbeats 1000000 in
theorem overlay_diff (p : Option Addr) (cap d : Nat) (ts : List ByteArray) (w : World) (hts : ts.length ≤ 1000000) (hk : ∀ j, j < ts.length → (ts.getD j ByteArray.empty).size ≤ 1000000) (hd : d < ts.length) (hdd : (ts.getD d ByteArray.empty).size ≠ (ts.getD 0 ByteArray.empty).size) (hp : StrsAt w p ts) :
    Calls Tryz.prog 50 #[.slice p ts.length cap] w fun e w' => e = .returned (.tuple #[.string ⟨#[]⟩, .bool false]) ∧ w = w' := by
  have HP := Lib.hid hp
  have HK := Lib.hid hk
  have HD := Lib.hid hdd
  have hne : ((ts.length : Int) == 0) = false := by rw [beq_eq_false_iff_ne]; omega
  obtain ⟨b, o, rfl, hc00⟩ : ∃ b o, p = some ⟨b, o, none⟩ ∧ w.cell? ⟨b, o, none⟩ = some (.string (ts.getD 0 ByteArray.empty)) := by
    rcases hp with h | ⟨b, o, e1, e2, e3⟩
    · rw [h] at hd; exact absurd hd (by simp)
    · exact ⟨b, o, e1, e3 0 (by omega)⟩
  obtain ⟨s0, hs0⟩ : ∃ s0, Hid (ts.getD 0 ByteArray.empty = s0) := ⟨_, rfl⟩
  rw [hs0.out] at hc00 HD
  have hsz0 : s0.size ≤ 1000000 := by rw [← hs0.out]; exact hk 0 (by omega)
  clear hp hk hdd
  go_enter Tryz.func50, Tryz.ntmps50
  go_wp2_with fail
  go_loopw [16] (fun i wr => ∃ j : Nat, j ≤ d ∧ i = .int .i64 j ∧ w = wr) (fun i _ => ts.length - (intOf i).toNat)
  case atStart => exact ⟨0, Nat.zero_le _, rfl, rfl⟩
  case round =>
    obtain ⟨j, hj, rfl, rfl⟩ := hrel
    have hlt : j < ts.length := by omega
    obtain ⟨s, hc0, hs⟩ : ∃ s, w.cell? ⟨b, o + j, none⟩ = some (.string s) ∧ Hid (ts.getD j ByteArray.empty = s) := by
      rcases HP.out with h | ⟨b, o, e1, e2, e3⟩
      · rw [h] at hlt; exact absurd hlt (by simp)
      · cases e1; exact ⟨_, e3 j hlt, rfl⟩
    have hsz : s.size ≤ 1000000 := by rw [← hs.out]; exact HK.out j hlt
    by_cases he : s.size = s0.size
    · have he' : (s.size : Int) = s0.size := by omega
      have hjd : j < d := by
        by_cases h : j = d
        · subst h; rw [hs.out] at HD; exact absurd he HD.out
        · omega
      clear he
      go_wp2_with fail
      exact ⟨⟨j + 1, by omega, by go_num, trivial⟩, by simp [intOf]; omega⟩
    · have he' : ¬ (s.size : Int) = s0.size := by omega
      clear he
      go_wp2_with fail
      go_ret2
      exact ⟨rfl, rfl⟩
set_option maxRecDepth 100000 in
set_option maxHeartbeats 1000000 in
theorem overlay_same (p : Option Addr) (cap n : Nat) (ts : List ByteArray) (w : World) (h0 : 0 < ts.length) (hts : ts.length ≤ 1000000) (hn : n ≤ 1000000) (hk : ∀ j, j < ts.length → (ts.getD j ByteArray.empty).size = n) (hp : StrsAt w p ts) :
    Calls Tryz.prog 50 #[.slice p ts.length cap] w fun e w' => e = .returned (ovVal ts n) ∧ Below w.heap.size w w' := by
  have HP := Lib.hid hp
  have HK := Lib.hid hk
  have hne : ((ts.length : Int) == 0) = false := by rw [beq_eq_false_iff_ne]; omega
  obtain ⟨b, o, rfl, hbw, hc00⟩ : ∃ b o, p = some ⟨b, o, none⟩ ∧ b < w.heap.size ∧ w.cell? ⟨b, o, none⟩ = some (.string (ts.getD 0 ByteArray.empty)) := by
    rcases hp with h | ⟨b, o, e1, e2, e3⟩
    · rw [h] at h0; exact absurd h0 (by simp)
    · exact ⟨b, o, e1, e2, e3 0 h0⟩
  have HBW := Lib.hid hbw
  obtain ⟨s0, hs0⟩ : ∃ s0, Hid (ts.getD 0 ByteArray.empty = s0) := ⟨_, rfl⟩
  rw [hs0.out] at hc00
  have hsz0 : s0.size = n := by rw [← hs0.out]; exact hk 0 h0
  have hc01 : (w.alloc (.cells Tryz.zeroCells166 166)).cell? ⟨b, o, none⟩ = some (.string s0) := by rw [(below_alloc1 w (.cells Tryz.zeroCells166 166)).cell (p := ⟨b, o, none⟩) hbw]; exact hc00
  have mk := make5 (w.alloc (.cells Tryz.zeroCells166 166)) n hn
  have V0 := Lib.hid (OV.start w ts n)
  clear hp hk hbw
  go_enter Tryz.func50, Tryz.ntmps50
  go_wp2_with fail
  go_loopw [16] (fun i wr => ∃ j : Nat, j ≤ ts.length ∧ i = .int .i64 j ∧ w = wr) (fun i _ => ts.length - (intOf i).toNat)
  case atStart => exact ⟨0, Nat.zero_le _, rfl, rfl⟩
  case round =>
    obtain ⟨j, hj, rfl, rfl⟩ := hrel
    by_cases hlt : j < ts.length
    · obtain ⟨s, hc0, hs⟩ : ∃ s, w.cell? ⟨b, o + j, none⟩ = some (.string s) ∧ Hid (ts.getD j ByteArray.empty = s) := by
        rcases HP.out with h | ⟨b, o, e1, e2, e3⟩
        · rw [h] at hlt; exact absurd hlt (by simp)
        · cases e1; exact ⟨_, e3 j hlt, rfl⟩
      have hsz : s.size = n := by rw [← hs.out]; exact HK.out j hlt
      have he' : (s.size : Int) = s0.size := by omega
      clear mk V0
      go_wp2_with fail
      exact ⟨⟨j + 1, by omega, by go_num, trivial⟩, by simp [intOf]; omega⟩
    · obtain rfl : j = ts.length := by omega
      subst hsz0
      go_wp2_with fail
      clear mk hc01 hc00
      go_loopw [35] (fun i wr => ∃ j : Nat, j ≤ s0.size ∧ i = .int .i64 j ∧ Hid (∀ k, k < j → oneB (colOf ts k) = true) ∧ Hid (OV w wr ts s0.size j)) (fun i _ => s0.size - (intOf i).toNat)
      case atStart => exact ⟨0, Nat.zero_le _, rfl, fun k h => absurd h (Nat.not_lt_zero _), V0⟩
      case round =>
        clear V0
        obtain ⟨j, hj, rfl, HA, V⟩ := hrel
        by_cases hlt : j < s0.size
        · have C := shown_any w.heap.size j (some ⟨b, o, none⟩) cap ts wr hts (fun i hi => by rw [HK.out i hi]; exact ⟨hlt, hn⟩) (HP.out.below V.out.bel) (fun a ha => by cases ha; exact Nat.ne_of_lt HBW.out) V.out.ty
          have C1 := Lib.hid C
          clear C
          go_wp2_with fail
          refine C1.out.mono ?_
          rintro e w2 ⟨rfl, t⟩
          have V2 := Lib.hid (V.out.next hlt t)
          have hf : w2.frozen? ⟨w.heap.size + 1, j, none⟩ = false := by rw [t.fr]; exact V.out.fr1 j
          obtain ⟨x, hx⟩ : ∃ x, w2.cell? ⟨w.heap.size + 1, j, none⟩ = some x := ⟨_, by rw [t.far _ (by show w.heap.size + 1 ≠ w.heap.size; omega)]; exact V.out.row j hlt⟩
          have HB := Lib.hid (V.out.bel.trans t.bel)
          clear t C1 V
          cases hone : oneB (colOf ts j) with
          | true =>
            have HA2 : Hid (∀ k, k < j + 1 → oneB (colOf ts k) = true) := by
              intro k hk
              by_cases e : k = j
              · rw [e]; exact hone
              · exact HA.out k (by omega)
            clear hone HA
            go_wp2_with fail
            exact ⟨⟨j + 1, by omega, by go_num, HA2, V2⟩, by simp [intOf]; omega⟩
          | false =>
            have HR : Hid (ovVal ts s0.size = .tuple #[.string ⟨#[]⟩, .bool false]) := by
              unfold ovVal Hid
              rw [if_neg]
              intro h
              have := List.all_eq_true.1 h j (List.mem_range.2 hlt)
              rw [hone] at this
              cases this
            clear hone HA V2
            go_wp2_with fail
            go_ret2
            exact ⟨by rw [HR.out]; rfl, HB.out⟩
        · obtain rfl : j = s0.size := by omega
          have HR : Hid (ovVal ts s0.size = .tuple #[.string (bs ((List.range s0.size).map fun k => lastB (colOf ts k))), .bool true]) := by
            unfold ovVal Hid
            rw [if_pos (List.all_eq_true.2 fun k hk => HA.out k (List.mem_range.1 hk))]
          have hconv := run_convert_bytes_arg (P := Tryz.prog) wr 106 5 und106 Tryz.underlying5 (w.heap.size + 1) 0 s0.size s0.size (((List.range s0.size).map fun k => lastB (colOf ts k)).map fun b => (b.toNat : Int)) (by simp) (fun i hi => by
            rw [Nat.zero_add, V.out.row i hi, if_pos hi]
            simp [List.getD, hi]) 9 Tryz.underlying9
          rw [strOfNums_bytes] at hconv
          have HB := Lib.hid V.out.bel
          clear V HA
          go_wp2_with fail
          go_ret2
          exact ⟨by rw [HR.out]; rfl, HB.out⟩
def sameSz (ts : List ByteArray) : Bool := ts.all fun s => s.size == (ts.getD 0 ByteArray.empty).size
/-- What laying texts over each other gives. -/
def ovRes (ts : List ByteArray) : Value := if ts = [] then .tuple #[.string ⟨#[]⟩, .bool false] else if sameSz ts = true then ovVal ts (ts.getD 0 ByteArray.empty).size else .tuple #[.string ⟨#[]⟩, .bool false]
theorem getD_mem {ts : List ByteArray} {j : Nat} (h : j < ts.length) : ts.getD j ByteArray.empty ∈ ts := by
  rw [List.getD, List.getElem?_eq_getElem h]; exact List.getElem_mem h
/-- sheet.Overlay. -/
theorem sOverlay (p : Option Addr) (cap : Nat) (ts : List ByteArray) (w : World) (hts : ts.length ≤ 1000000) (hk : ∀ j, j < ts.length → (ts.getD j ByteArray.empty).size ≤ 1000000) (hp : StrsAt w p ts) :
    Calls Tryz.prog 50 #[.slice p ts.length cap] w fun e w' => e = .returned (ovRes ts) ∧ Below w.heap.size w w' := by
  by_cases h0 : ts = []
  · subst h0
    refine (overlay_none p cap w).mono ?_
    rintro e w' ⟨rfl, rfl⟩
    exact ⟨by rw [ovRes, if_pos rfl], Below.refl _ _⟩
  · have hl : 0 < ts.length := List.length_pos_iff.2 h0
    cases hs : sameSz ts with
    | true =>
      have hR : ovRes ts = ovVal ts (ts.getD 0 ByteArray.empty).size := by rw [ovRes, if_neg h0, if_pos hs]
      rw [hR]
      exact overlay_same p cap _ ts w hl hts (hk 0 hl) (fun j hj => by
        have := List.all_eq_true.1 hs _ (getD_mem hj)
        exact eq_of_beq this) hp
    | false =>
      have hR : ovRes ts = .tuple #[.string ⟨#[]⟩, .bool false] := by rw [ovRes, if_neg h0, if_neg (by rw [hs]; decide)]
      rw [hR]
      obtain ⟨s, hs1, hs2⟩ := List.all_eq_false.1 hs
      obtain ⟨d, hd, hd2⟩ := List.getElem_of_mem hs1
      have hd3 : ts.getD d ByteArray.empty = s := by rw [List.getD, List.getElem?_eq_getElem hd]; exact hd2
      refine (overlay_diff p cap d ts w hts hk hd (by rw [hd3]; intro e; exact hs2 (beq_iff_eq.2 e)) hp).mono ?_
      rintro e w' ⟨rfl, rfl⟩
      exact ⟨rfl, Below.refl _ _⟩
end Go.Proofs.YtmfhpddeclggfaaGreatDoor
