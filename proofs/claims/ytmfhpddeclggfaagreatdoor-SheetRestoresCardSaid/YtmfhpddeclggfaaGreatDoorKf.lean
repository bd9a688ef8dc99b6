import Derived.Test.YtmfhpddeclggfaaGreatDoorKd
import Derived.WalkKit
import Derived.LoopTactic
import Derived.WalkSpells
import Derived.WalkLawsBesides
import Derived.Lib.Hide
import Derived.BigQuiet
import Derived.IntWalk
import Derived.Deep.DeepMust
import Derived.WalkSmall
import Derived.StillTailTactics
import Derived.Lib.SlBytesConst
import Derived.Deep.RegionLaw
import Derived.Deep.QuietTactic
import Derived.Test.YtmfhpddeclggfaaGreatDoorKe
import Derived.Laws.StructEq
import Derived.MapKept
import Derived.WideKeyRuns
import Derived.Maps.Own
import Derived.Deep.RegionHeld3
import Derived.Deep.AppendLies
namespace Go.Proofs.YtmfhpddeclggfaaGreatDoor
open Go.RowKit
/-- The last byte of a column that is no mark for a byte that could not be read. -/
def lastB (col : List UInt8) : UInt8 := col.foldl (fun m c => if c = 63 then m else c) 63
theorem lastB_snoc (l : List UInt8) (c : UInt8) : lastB (l ++ [c]) = if c = 63 then lastB l else c := by simp [lastB]
/-- Whether a column shows one byte. -/
def oneB (col : List UInt8) : Bool := decide (lastB col = 63) || decide (col.count (lastB col) + col.count 63 = col.length)
/-- A tally: what each byte counts, in the block T. -/
structure TY (w W : World) (T : Nat) (f : UInt8 → Nat) : Prop where
  bel : Below T w W
  size : W.heap.size = w.heap.size
  fr : ∀ a : Addr, W.frozen? a = w.frozen? a
  far : ∀ a : Addr, a.block ≠ T → W.cell? a = w.cell? a
  nofr : ∀ o, w.frozen? ⟨T, o, none⟩ = false
  cell : ∀ v : UInt8, W.cell? ⟨T, v.toNat, none⟩ = some (.int .i64 (f v))
theorem TY.drew {w W : World} {T : Nat} {f : UInt8 → Nat} (h : TY w W T f) : TY w W.drew T f :=
  ⟨h.bel.drew, h.size, h.fr, h.far, h.nofr, h.cell⟩
theorem TY.drewN {w W : World} {T : Nat} {f : UInt8 → Nat} (h : TY w W T f) (n : Nat) : TY w (W.drewN n) T f := by
  refine ⟨?_, ?_, ?_, ?_, h.nofr, ?_⟩
  · exact below_drewN h.bel n
  · exact h.size
  · exact h.fr
  · exact h.far
  · exact h.cell
theorem TY.set {w W : World} {T : Nat} {f : UInt8 → Nat} (h : TY w W T f) (c : UInt8) (n : Nat) : TY w (W.setCell ⟨T, c.toNat, none⟩ (.int .i64 n)) T (fun v => if v = c then n else f v) := by
  refine ⟨h.bel.setCell (p := ⟨T, c.toNat, none⟩) (Nat.le_refl _) _, by simpa using h.size, fun a => by rw [World.frozen?_setCell]; exact h.fr a, fun a ha => ?_, h.nofr, fun v => ?_⟩
  · rw [World.cell?_setCell_other _ _ _ _ (fun e => ha (congrArg Addr.block e).symm)]; exact h.far a ha
  · by_cases e : v = c
    · subst e
      simp only [if_true]
      exact World.cell?_setCell_same _ _ _ (h.cell v)
    · simp only [if_neg e]
      rw [World.cell?_setCell_other _ _ _ _ (addr_ne (fun e2 => e (UInt8.toNat_inj.1 e2.symm)))]
      exact h.cell v
theorem TY.congr {w W : World} {T : Nat} {f g : UInt8 → Nat} (h : TY w W T f) (e : ∀ v, f v = g v) : TY w W T g :=
  ⟨h.bel, h.size, h.fr, h.far, h.nofr, fun v => by rw [← e v]; exact h.cell v⟩
def colOf (ts : List ByteArray) (k : Nat) : List UInt8 := ts.map fun s => s.data.toList.getD k 0
theorem colOf_len (ts : List ByteArray) (k : Nat) : (colOf ts k).length = ts.length := by simp [colOf]
theorem col_snoc (ts : List ByteArray) (k j : Nat) (c : UInt8) (h : j < ts.length) (hc : (ts.getD j ByteArray.empty).data.toList.getD k 0 = c) : (colOf ts k).take (j + 1) = (colOf ts k).take j ++ [c] := by
  rw [List.take_succ_eq_append_getElem (by rw [colOf_len]; exact h)]
  congr 2
  rw [show ts.getD j ByteArray.empty = ts[j] from by rw [List.getD, List.getElem?_eq_getElem h]; rfl] at hc
  simp only [colOf, List.getElem_map]
  exact hc
set_option maxRecDepth 100000 in
set_option maxHeartbeats 1000000 in
theorem shown_any (T k : Nat) (p : Option Addr) (cap : Nat) (ts : List ByteArray) (w : World) (hts : ts.length ≤ 1000000) (hk : ∀ j, j < ts.length → k < (ts.getD j ByteArray.empty).size ∧ (ts.getD j ByteArray.empty).size ≤ 1000000)
    (hp : StrsAt w p ts) (hpT : ∀ a, p = some a → a.block ≠ T) (h0 : TY w w T fun _ => 0) :
    Calls Tryz.prog 106 #[.pointer (some ⟨T, 0, none⟩), .slice p ts.length cap, .int .i64 k] w fun e w' => e = .returned (.tuple #[.int .u8 (lastB (colOf ts k)).toNat, .bool (oneB (colOf ts k))]) ∧ TY w w' T fun _ => 0 := by
  have HP := Lib.hid hp
  have HPT := Lib.hid hpT
  have HK := Lib.hid hk
  have H0 := Lib.hid h0
  clear hp hpT hk h0
  go_enter Tryz.func106, Tryz.ntmps106
  go_wp2_with fail
  go_loopw [8, 16] (fun m i wr => ∃ j : Nat, j ≤ ts.length ∧ i = .int .i64 j ∧ m = .int .u8 (lastB ((colOf ts k).take j)).toNat ∧ Hid (TY w wr T fun v => ((colOf ts k).take j).count v)) (fun _ i _ => ts.length - (intOf i).toNat)
  case atStart => exact ⟨0, Nat.zero_le _, rfl, rfl, by simpa [Hid] using H0.out⟩
  case round =>
    obtain ⟨j, hj, rfl, rfl, S⟩ := hrel
    by_cases hlt : j < ts.length
    · obtain ⟨b, o, s, rfl, hc0, hs⟩ : ∃ b o s, p = some ⟨b, o, none⟩ ∧ wr.cell? ⟨b, o + j, none⟩ = some (.string s) ∧ Hid (ts.getD j ByteArray.empty = s) := by
        rcases HP.out with h | ⟨b, o, e1, e2, e3⟩
        · rw [h] at hlt; exact absurd hlt (by simp)
        · exact ⟨b, o, _, e1, by rw [S.out.far ⟨b, o + j, none⟩ (by have h := HPT.out _ e1; exact h)]; exact e3 j hlt, rfl⟩
      have hks := (HK.out j hlt).1
      rw [hs.out] at hks
      obtain ⟨c, hc⟩ : ∃ c, s[k] = c := ⟨_, rfl⟩
      have hcell := S.out.cell c
      obtain ⟨n, hn⟩ : ∃ n, n = ((colOf ts k).take j).count c := ⟨_, rfl⟩
      rw [← hn] at hcell
      have hfr : wr.frozen? ⟨T, c.toNat, none⟩ = false := by rw [S.out.fr]; exact S.out.nofr _
      have hnb : n ≤ 1000000 := by
        rw [hn]
        refine Nat.le_trans List.count_le_length ?_
        rw [List.length_take]; omega
      have hcl := c.toNat_lt
      have HN := Lib.hid hn
      clear hn
      go_wp2_with fail
      go_region
      have S1 : Hid (TY w (wr.setCell ⟨T, c.toNat, none⟩ (.int .i64 ((n : Int) + 1))).drew T fun v => ((colOf ts k).take (j + 1)).count v) := by
        have h := ((S.out.set c (n + 1)).drew).congr (g := fun v => ((colOf ts k).take (j + 1)).count v) fun v => by
          rw [col_snoc ts k j c hlt (by rw [hs.out, List.getD, List.getElem?_eq_getElem (by simpa using hks)]; exact hc), List.count_append, List.count_singleton]
          by_cases e : v = c
          · subst e; simp [HN.out]
          · have e2 : ¬ c = v := fun h => e h.symm
            simp [e, e2]
        exact h
      have hL := lastB_snoc ((colOf ts k).take j) c
      rw [← col_snoc ts k j c hlt (by rw [hs.out, List.getD, List.getElem?_eq_getElem (by simpa using hks)]; exact hc)] at hL
      have HL := Lib.hid hL
      clear hL hcell hfr S H0 hc0
      by_cases h63 : c = 63
      · have t63 : ((c.toNat : Int) == 63) = true := by rw [h63]; rfl
        have t63' : (c.toNat : Int) = 63 := by rw [h63]; rfl
        go_wp2_with fail
        refine ⟨⟨j + 1, by omega, by go_num, by rw [HL.out, if_pos h63], by have h := S1; rw [show c.toNat = 63 from by rw [h63]; rfl] at h; exact h⟩, by simp [intOf]; omega⟩
      · have t63' : ¬ (c.toNat : Int) = 63 := fun h => h63 (UInt8.toNat_inj.1 (by have : (63 : UInt8).toNat = 63 := rfl; omega))
        go_wp2_with fail
        refine ⟨⟨j + 1, by omega, by go_num, by rw [HL.out, if_neg h63], S1⟩, by simp [intOf]; omega⟩
    · obtain rfl : j = ts.length := by omega
      rw [show (colOf ts k).take ts.length = colOf ts k from List.take_of_length_le (Nat.le_of_eq (colOf_len ts k))] at S ⊢
      obtain ⟨col, hcol⟩ : ∃ col, colOf ts k = col := ⟨_, rfl⟩
      have HCL : Hid (col.length = ts.length) := by unfold Hid; rw [← hcol]; exact colOf_len ts k
      rw [hcol] at S ⊢
      obtain ⟨mb, hmb⟩ : ∃ mb, lastB col = mb := ⟨_, rfl⟩
      rw [hmb]
      have d1 : wr.cell? ⟨T, mb.toNat, none⟩ = some (.int .i64 (col.count mb)) := S.out.cell mb
      have d2 : wr.cell? ⟨T, 63, none⟩ = some (.int .i64 (col.count 63)) := S.out.cell 63
      obtain ⟨n1, hn1⟩ : ∃ n1, n1 = col.count mb := ⟨_, rfl⟩
      obtain ⟨n2, hn2⟩ : ∃ n2, n2 = col.count 63 := ⟨_, rfl⟩
      have hb1 : n1 ≤ 1000000 := by have := HCL.out; rw [hn1]; exact Nat.le_trans List.count_le_length (by omega)
      have hb2 : n2 ≤ 1000000 := by have := HCL.out; rw [hn2]; exact Nat.le_trans List.count_le_length (by omega)
      rw [← hn1] at d1
      rw [← hn2] at d2
      have hml := mb.toNat_lt
      have HOK : Hid (oneB (colOf ts k) = (decide (mb = 63) || decide (n1 + n2 = ts.length))) := by unfold Hid; rw [hcol, oneB, hmb, hn1, hn2, HCL.out]
      have HMB : Hid (lastB (colOf ts k) = mb) := by unfold Hid; rw [hcol, hmb]
      have HCOL := Lib.hid hcol
      clear hcol hmb hn1 hn2 H0
      by_cases h63 : mb = 63
      · have HOK2 : Hid (oneB (colOf ts k) = true) := by unfold Hid; rw [HOK.out]; simp [h63]
        have t63 : ((mb.toNat : Int) == 63) = true := by rw [h63]; rfl
        clear HOK
        go_wp2_with fail
        go_quiet (fail)
        have S1 : Hid (TY w (wr.drewN nq) T fun v => if v ∈ col.take 0 then 0 else col.count v) := by
          have h := S.out.drewN nq
          exact h.congr fun v => by simp
        clear S d1 d2 h63 t63
        go_wp2_with fail
        go_loopw [57] (fun i wr2 => ∃ j : Nat, j ≤ ts.length ∧ i = .int .i64 j ∧ Hid (TY w wr2 T fun v => if v ∈ col.take j then 0 else col.count v)) (fun i _ => ts.length - (intOf i).toNat)
        case atStart => exact ⟨0, Nat.zero_le _, rfl, S1⟩
        case round =>
          clear S1
          rename World => wz
          obtain ⟨j, hj, rfl, S⟩ := hrel
          by_cases hlt : j < ts.length
          · obtain ⟨b, o, s, rfl, hc0, hs⟩ : ∃ b o s, p = some ⟨b, o, none⟩ ∧ wz.cell? ⟨b, o + j, none⟩ = some (.string s) ∧ Hid (ts.getD j ByteArray.empty = s) := by
              rcases HP.out with h | ⟨b, o, e1, e2, e3⟩
              · rw [h] at hlt; exact absurd hlt (by simp)
              · exact ⟨b, o, _, e1, by rw [S.out.far ⟨b, o + j, none⟩ (by have h := HPT.out _ e1; exact h)]; exact e3 j hlt, rfl⟩
            have hks := (HK.out j hlt).1
            rw [hs.out] at hks
            obtain ⟨c, hc⟩ : ∃ c, s[k] = c := ⟨_, rfl⟩
            have hcell := S.out.cell c
            obtain ⟨n, hn⟩ : ∃ n : Nat, n = (if c ∈ col.take j then 0 else col.count c) := ⟨_, rfl⟩
            rw [← hn] at hcell
            have hfr : wz.frozen? ⟨T, c.toNat, none⟩ = false := by rw [S.out.fr]; exact S.out.nofr _
            have hcl := c.toNat_lt
            clear hn
            have S2 : Hid (TY w (wz.setCell ⟨T, c.toNat, none⟩ (.int .i64 0)).drew T fun v => if v ∈ col.take (j + 1) then 0 else col.count v) := by
              have h := ((S.out.set c 0).drew).congr (g := fun v => if v ∈ col.take (j + 1) then 0 else col.count v) fun v => by
                rw [← HCOL.out, col_snoc ts k j c hlt (by rw [hs.out, List.getD, List.getElem?_eq_getElem (by simpa using hks)]; exact hc)]
                by_cases e : v = c
                · subst e; simp
                · simp [e]
              exact h
            go_wp2_with fail
            go_region
            go_wp2_with fail
            exact ⟨⟨j + 1, by omega, by go_num, S2⟩, by simp [intOf]; omega⟩
          · obtain rfl : j = ts.length := by omega
            have S2 : Hid (TY w wz T fun _ => 0) := by
              rw [show col.take ts.length = col from List.take_of_length_le (Nat.le_of_eq HCL.out)] at S
              exact S.out.congr fun v => by
                by_cases h : v ∈ col
                · simp [h]
                · simp [h, List.count_eq_zero]
            clear S
            go_wp2_with fail
            go_ret2
            exact ⟨by rw [HMB.out, HOK2.out]; rfl, S2.out⟩
      · have t63 : ((mb.toNat : Int) == 63) = false := by
          rw [beq_eq_false_iff_ne]
          exact fun h => h63 (UInt8.toNat_inj.1 (by have : (63 : UInt8).toNat = 63 := rfl; omega))
        have HOK2 : Hid (oneB (colOf ts k) = ((n1 : Int) + n2 == (ts.length : Int))) := by
          unfold Hid; rw [HOK.out]; simp only [h63, decide_false, Bool.false_or]
          by_cases e : n1 + n2 = ts.length
          · rw [decide_eq_true e]; exact (beq_iff_eq.2 (by omega)).symm
          · rw [decide_eq_false e]; exact (beq_eq_false_iff_ne.2 (by omega)).symm
        clear HOK h63
        go_wp2_with fail
        go_quiet (fail)
        have S1 : Hid (TY w (wr.drewN nq) T fun v => if v ∈ col.take 0 then 0 else col.count v) := by
          have h := S.out.drewN nq
          exact h.congr fun v => by simp
        clear S d1 d2 t63
        go_wp2_with fail
        go_loopw [57] (fun i wr2 => ∃ j : Nat, j ≤ ts.length ∧ i = .int .i64 j ∧ Hid (TY w wr2 T fun v => if v ∈ col.take j then 0 else col.count v)) (fun i _ => ts.length - (intOf i).toNat)
        case atStart => exact ⟨0, Nat.zero_le _, rfl, S1⟩
        case round =>
          clear S1
          rename World => wz
          obtain ⟨j, hj, rfl, S⟩ := hrel
          by_cases hlt : j < ts.length
          · obtain ⟨b, o, s, rfl, hc0, hs⟩ : ∃ b o s, p = some ⟨b, o, none⟩ ∧ wz.cell? ⟨b, o + j, none⟩ = some (.string s) ∧ Hid (ts.getD j ByteArray.empty = s) := by
              rcases HP.out with h | ⟨b, o, e1, e2, e3⟩
              · rw [h] at hlt; exact absurd hlt (by simp)
              · exact ⟨b, o, _, e1, by rw [S.out.far ⟨b, o + j, none⟩ (by have h := HPT.out _ e1; exact h)]; exact e3 j hlt, rfl⟩
            have hks := (HK.out j hlt).1
            rw [hs.out] at hks
            obtain ⟨c, hc⟩ : ∃ c, s[k] = c := ⟨_, rfl⟩
            have hcell := S.out.cell c
            obtain ⟨n, hn⟩ : ∃ n : Nat, n = (if c ∈ col.take j then 0 else col.count c) := ⟨_, rfl⟩
            rw [← hn] at hcell
            have hfr : wz.frozen? ⟨T, c.toNat, none⟩ = false := by rw [S.out.fr]; exact S.out.nofr _
            have hcl := c.toNat_lt
            clear hn
            have S2 : Hid (TY w (wz.setCell ⟨T, c.toNat, none⟩ (.int .i64 0)).drew T fun v => if v ∈ col.take (j + 1) then 0 else col.count v) := by
              have h := ((S.out.set c 0).drew).congr (g := fun v => if v ∈ col.take (j + 1) then 0 else col.count v) fun v => by
                rw [← HCOL.out, col_snoc ts k j c hlt (by rw [hs.out, List.getD, List.getElem?_eq_getElem (by simpa using hks)]; exact hc)]
                by_cases e : v = c
                · subst e; simp
                · simp [e]
              exact h
            go_wp2_with fail
            go_region
            go_wp2_with fail
            exact ⟨⟨j + 1, by omega, by go_num, S2⟩, by simp [intOf]; omega⟩
          · obtain rfl : j = ts.length := by omega
            have S2 : Hid (TY w wz T fun _ => 0) := by
              rw [show col.take ts.length = col from List.take_of_length_le (Nat.le_of_eq HCL.out)] at S
              exact S.out.congr fun v => by
                by_cases h : v ∈ col
                · simp [h]
                · simp [h, List.count_eq_zero]
            clear S
            go_wp2_with fail
            go_ret2
            exact ⟨by rw [HMB.out, HOK2.out]; rfl, S2.out⟩
end Go.Proofs.YtmfhpddeclggfaaGreatDoor
namespace Go.Proofs.YtmfhpddeclggfaaGreatDoor
open Go.RowKit
theorem zero166_list : Tryz.zeroCells166.toList = List.replicate 256 (.int .i64 0) := by kernel_rfl
theorem zero166 (v : UInt8) : Tryz.zeroCells166.toList[v.toNat]? = some (.int .i64 0) := by
  rw [zero166_list, List.getElem?_replicate, if_pos v.toNat_lt]
theorem und106 : Tryz.prog.underlying 106 = some (.slice 5) := by kernel_rfl
theorem make5 (u : World) (n : Nat) (h : n ≤ 1000000) : (Instr.makeSlice 106 (.int .i64 (n : Int)) (.int .i64 (n : Int))).run Tryz.prog u = .ok (.slice (some ⟨u.heap.size, 0, none⟩) n n) (u.alloc (.cells (madeCells #[.int .u8 0] n) 5)) := by
  have hi := info5
  cases h0 : Tryz.prog.info? 5 with
  | none => rw [h0] at hi; cases hi
  | some i =>
    rw [h0] at hi
    simp only [Option.map_some, Option.some.injEq, Prod.mk.injEq] at hi
    obtain ⟨h1, h2, h3⟩ := hi
    have := run_make (P := Tryz.prog) u 106 5 i _ und106 h0 h1 .i64 .i64 n n (by omega) (Int.le_refl _) (by rw [h3]; omega) (by omega)
    rw [h2] at this
    simpa [Value.cells] using this
theorem new_at (w : World) (C : Array Value) (e : TypeId) (o : Nat) (u : Value) (h : C.toList[o]? = some u) : (w.alloc (.cells C e)).cell? ⟨w.heap.size, o, none⟩ = some u := by
  have h2 := cells_new w C e o u h
  rw [show (⟨w.heap.size, 0, none⟩ : Addr).add o = ⟨w.heap.size, o, none⟩ from by simp [Addr.add]; omega] at h2
  exact h2
theorem made_at (n o : Nat) (h : o < n) : (madeCells #[.int .u8 0] n).toList[o]? = some (.int .u8 0) := by
  rw [toList_madeCells_one, List.getElem?_replicate, if_pos h]
/-- How the world stands while texts are laid over each other. -/
structure OV (w W : World) (ts : List ByteArray) (n j : Nat) : Prop where
  bel : Below w.heap.size w W
  size : w.heap.size + 1 < W.heap.size
  tally : ∀ v : UInt8, W.cell? ⟨w.heap.size, v.toNat, none⟩ = some (.int .i64 0)
  fr0 : ∀ o, W.frozen? ⟨w.heap.size, o, none⟩ = false
  fr1 : ∀ o, W.frozen? ⟨w.heap.size + 1, o, none⟩ = false
  row : ∀ o, o < n → W.cell? ⟨w.heap.size + 1, o, none⟩ = some (.int .u8 (if o < j then lastB (colOf ts o) else 0).toNat)
theorem OV.start (w : World) (ts : List ByteArray) (n : Nat) : OV w ((w.alloc (.cells Tryz.zeroCells166 166)).alloc (.cells (madeCells #[.int .u8 0] n) 5)) ts n 0 := by
  have hb := below_alloc1 (w.alloc (.cells Tryz.zeroCells166 166)) (.cells (madeCells #[.int .u8 0] n) 5)
  have hs : (w.alloc (.cells Tryz.zeroCells166 166)).heap.size = w.heap.size + 1 := World.size_alloc _ _
  refine ⟨(below_alloc1 _ _).trans (hb.mono (by rw [hs]; omega)), by rw [World.size_alloc, hs]; omega, fun v => ?_, fun o => ?_, fun o => ?_, fun o ho => ?_⟩
  · rw [hb.cell (p := ⟨w.heap.size, v.toNat, none⟩) (by show w.heap.size < _; omega)]
    exact new_at w _ _ _ _ (zero166 v)
  · rw [hb.frozen (p := ⟨w.heap.size, o, none⟩) (by show w.heap.size < _; omega)]
    exact frozen_new w _ _ o
  · have := frozen_new (w.alloc (.cells Tryz.zeroCells166 166)) (madeCells #[.int .u8 0] n) 5 o
    rw [hs] at this
    exact this
  · have := new_at (w.alloc (.cells Tryz.zeroCells166 166)) (madeCells #[.int .u8 0] n) 5 o _ (made_at n o ho)
    rw [hs] at this
    rw [if_neg (Nat.not_lt_zero _)]
    exact this
theorem OV.ty {w W : World} {ts : List ByteArray} {n j : Nat} (h : OV w W ts n j) : TY W W w.heap.size fun _ => 0 :=
  ⟨Below.refl _ _, rfl, fun _ => rfl, fun _ _ => rfl, h.fr0, fun v => h.tally v⟩
theorem OV.next {w W W' : World} {ts : List ByteArray} {n j : Nat} (h : OV w W ts n j) (hj : j < n) (t : TY W W' w.heap.size fun _ => 0) :
    OV w (W'.setCell ⟨w.heap.size + 1, j, none⟩ (.int .u8 (lastB (colOf ts j)).toNat)) ts n (j + 1) := by
  have hr : ∀ o, o < n → W'.cell? ⟨w.heap.size + 1, o, none⟩ = some (.int .u8 (if o < j then lastB (colOf ts o) else 0).toNat) := fun o ho => by
    rw [t.far _ (by show w.heap.size + 1 ≠ w.heap.size; omega)]; exact h.row o ho
  refine ⟨(h.bel.trans t.bel).setCell (p := ⟨w.heap.size + 1, j, none⟩) (Nat.le_succ _) _, by have := t.size; have := h.size; simp; omega, fun v => ?_, fun o => ?_, fun o => ?_, fun o ho => ?_⟩
  · rw [World.cell?_setCell_other _ _ _ _ (fun e => by have := congrArg Addr.block e; simp at this)]
    exact t.cell v
  · rw [World.frozen?_setCell, t.fr]; exact h.fr0 o
  · rw [World.frozen?_setCell, t.fr]; exact h.fr1 o
  · by_cases e : j = o
    · subst e
      rw [if_pos (Nat.lt_succ_self _)]
      exact World.cell?_setCell_same _ _ _ (hr j hj)
    · rw [World.cell?_setCell_other _ _ _ _ (addr_ne e), hr o ho]
      by_cases h2 : o < j
      · rw [if_pos h2, if_pos (by omega)]
      · rw [if_neg h2, if_neg (by omega)]
set_option maxRecDepth 100000 in
set_option maxHeartbeats 1000000 in
theorem overlay_none (p : Option Addr) (cap : Nat) (w : World) :
    Calls Tryz.prog 50 #[.slice p 0 cap] w fun e w' => e = .returned (.tuple #[.string ⟨#[]⟩, .bool false]) ∧ w = w' := by
  go_enter Tryz.func50, Tryz.ntmps50
  go_wp2_with fail
  go_ret2
  exact ⟨rfl, rfl⟩
def ovVal (ts : List ByteArray) (n : Nat) : Value := if (List.range n).all (fun k => oneB (colOf ts k)) = true then .tuple #[.string (bs ((List.range n).map fun k => lastB (colOf ts k))), .bool true] else .tuple #[.string ⟨#[]⟩, .bool false]
set_option maxRecDepth 100000 in
set_option maxHeartbeats 1000000 in
theorem overlay_diff (p : Option Addr) (cap d : Nat) (ts : List ByteArray) (w : World) (hts : ts.length ≤ 1000000) (hk : ∀ j, j < ts.length → (ts.getD j ByteArray.empty).size ≤ 1000000) (hd : d < ts.length) (hdd : (ts.getD d ByteArray.empty).size ≠ (ts.getD 0 ByteArray.empty).size) (hp : StrsAt w p ts) :
    Calls Tryz.prog 50 #[.slice p ts.length cap] w fun e w' => e = .returned (.tuple #[.string ⟨#[]⟩, .bool false]) ∧ w = w' := by
  have HP := Lib.hid hp
  have HK := Lib.hid hk
  have HD := Lib.hid hdd
  have hne : ((ts.length : Int) == 0) = false := by rw [beq_eq_false_iff_ne]; omega
  obtain ⟨b, o, rfl, hc00⟩ : ∃ b o, p = some ⟨b, o, none⟩ ∧ w.cell? ⟨b, o, none⟩ = some (.string (ts.getD 0 ByteArray.empty)) := by
    rcases hp with h | ⟨b, o, e1, e2, e3⟩
    · rw [h] at hd; exact absurd hd (by simp)
    · exact ⟨b, o, e1, e3 0 (by omega)⟩
  obtain ⟨s0, hs0⟩ : ∃ s0, Hid (ts.getD 0 ByteArray.empty = s0) := ⟨_, rfl⟩
  rw [hs0.out] at hc00 HD
  have hsz0 : s0.size ≤ 1000000 := by rw [← hs0.out]; exact hk 0 (by omega)
  clear hp hk hdd
  go_enter Tryz.func50, Tryz.ntmps50
  go_wp2_with fail
  go_loopw [16] (fun i wr => ∃ j : Nat, j ≤ d ∧ i = .int .i64 j ∧ w = wr) (fun i _ => ts.length - (intOf i).toNat)
  case atStart => exact ⟨0, Nat.zero_le _, rfl, rfl⟩
  case round =>
    obtain ⟨j, hj, rfl, rfl⟩ := hrel
    have hlt : j < ts.length := by omega
    obtain ⟨s, hc0, hs⟩ : ∃ s, w.cell? ⟨b, o + j, none⟩ = some (.string s) ∧ Hid (ts.getD j ByteArray.empty = s) := by
      rcases HP.out with h | ⟨b, o, e1, e2, e3⟩
      · rw [h] at hlt; exact absurd hlt (by simp)
      · cases e1; exact ⟨_, e3 j hlt, rfl⟩
    have hsz : s.size ≤ 1000000 := by rw [← hs.out]; exact HK.out j hlt
    by_cases he : s.size = s0.size
    · have he' : (s.size : Int) = s0.size := by omega
      have hjd : j < d := by
        by_cases h : j = d
        · subst h; rw [hs.out] at HD; exact absurd he HD.out
        · omega
      clear he
      go_wp2_with fail
      exact ⟨⟨j + 1, by omega, by go_num, trivial⟩, by simp [intOf]; omega⟩
    · have he' : ¬ (s.size : Int) = s0.size := by omega
      clear he
      go_wp2_with fail
      go_ret2
      exact ⟨rfl, rfl⟩
set_option maxRecDepth 100000 in
set_option maxHeartbeats 1000000 in
theorem overlay_same (p : Option Addr) (cap n : Nat) (ts : List ByteArray) (w : World) (h0 : 0 < ts.length) (hts : ts.length ≤ 1000000) (hn : n ≤ 1000000) (hk : ∀ j, j < ts.length → (ts.getD j ByteArray.empty).size = n) (hp : StrsAt w p ts) :
    Calls Tryz.prog 50 #[.slice p ts.length cap] w fun e w' => e = .returned (ovVal ts n) ∧ Below w.heap.size w w' := by
  have HP := Lib.hid hp
  have HK := Lib.hid hk
  have hne : ((ts.length : Int) == 0) = false := by rw [beq_eq_false_iff_ne]; omega
  obtain ⟨b, o, rfl, hbw, hc00⟩ : ∃ b o, p = some ⟨b, o, none⟩ ∧ b < w.heap.size ∧ w.cell? ⟨b, o, none⟩ = some (.string (ts.getD 0 ByteArray.empty)) := by
    rcases hp with h | ⟨b, o, e1, e2, e3⟩
    · rw [h] at h0; exact absurd h0 (by simp)
    · exact ⟨b, o, e1, e2, e3 0 h0⟩
  have HBW := Lib.hid hbw
  obtain ⟨s0, hs0⟩ : ∃ s0, Hid (ts.getD 0 ByteArray.empty = s0) := ⟨_, rfl⟩
  rw [hs0.out] at hc00
  have hsz0 : s0.size = n := by rw [← hs0.out]; exact hk 0 h0
  have hc01 : (w.alloc (.cells Tryz.zeroCells166 166)).cell? ⟨b, o, none⟩ = some (.string s0) := by rw [(below_alloc1 w (.cells Tryz.zeroCells166 166)).cell (p := ⟨b, o, none⟩) hbw]; exact hc00
  have mk := make5 (w.alloc (.cells Tryz.zeroCells166 166)) n hn
  have V0 := Lib.hid (OV.start w ts n)
  clear hp hk hbw
  go_enter Tryz.func50, Tryz.ntmps50
  go_wp2_with fail
  go_loopw [16] (fun i wr => ∃ j : Nat, j ≤ ts.length ∧ i = .int .i64 j ∧ w = wr) (fun i _ => ts.length - (intOf i).toNat)
  case atStart => exact ⟨0, Nat.zero_le _, rfl, rfl⟩
  case round =>
    obtain ⟨j, hj, rfl, rfl⟩ := hrel
    by_cases hlt : j < ts.length
    · obtain ⟨s, hc0, hs⟩ : ∃ s, w.cell? ⟨b, o + j, none⟩ = some (.string s) ∧ Hid (ts.getD j ByteArray.empty = s) := by
        rcases HP.out with h | ⟨b, o, e1, e2, e3⟩
        · rw [h] at hlt; exact absurd hlt (by simp)
        · cases e1; exact ⟨_, e3 j hlt, rfl⟩
      have hsz : s.size = n := by rw [← hs.out]; exact HK.out j hlt
      have he' : (s.size : Int) = s0.size := by omega
      clear mk V0
      go_wp2_with fail
      exact ⟨⟨j + 1, by omega, by go_num, trivial⟩, by simp [intOf]; omega⟩
    · obtain rfl : j = ts.length := by omega
      subst hsz0
      go_wp2_with fail
      clear mk hc01 hc00
      go_loopw [35] (fun i wr => ∃ j : Nat, j ≤ s0.size ∧ i = .int .i64 j ∧ Hid (∀ k, k < j → oneB (colOf ts k) = true) ∧ Hid (OV w wr ts s0.size j)) (fun i _ => s0.size - (intOf i).toNat)
      case atStart => exact ⟨0, Nat.zero_le _, rfl, fun k h => absurd h (Nat.not_lt_zero _), V0⟩
      case round =>
        clear V0
        obtain ⟨j, hj, rfl, HA, V⟩ := hrel
        by_cases hlt : j < s0.size
        · have C := shown_any w.heap.size j (some ⟨b, o, none⟩) cap ts wr hts (fun i hi => by rw [HK.out i hi]; exact ⟨hlt, hn⟩) (HP.out.below V.out.bel) (fun a ha => by cases ha; exact Nat.ne_of_lt HBW.out) V.out.ty
          have C1 := Lib.hid C
          clear C
          go_wp2_with fail
          refine C1.out.mono ?_
          rintro e w2 ⟨rfl, t⟩
          have V2 := Lib.hid (V.out.next hlt t)
          have hf : w2.frozen? ⟨w.heap.size + 1, j, none⟩ = false := by rw [t.fr]; exact V.out.fr1 j
          obtain ⟨x, hx⟩ : ∃ x, w2.cell? ⟨w.heap.size + 1, j, none⟩ = some x := ⟨_, by rw [t.far _ (by show w.heap.size + 1 ≠ w.heap.size; omega)]; exact V.out.row j hlt⟩
          have HB := Lib.hid (V.out.bel.trans t.bel)
          clear t C1 V
          cases hone : oneB (colOf ts j) with
          | true =>
            have HA2 : Hid (∀ k, k < j + 1 → oneB (colOf ts k) = true) := by
              intro k hk
              by_cases e : k = j
              · rw [e]; exact hone
              · exact HA.out k (by omega)
            clear hone HA
            go_wp2_with fail
            exact ⟨⟨j + 1, by omega, by go_num, HA2, V2⟩, by simp [intOf]; omega⟩
          | false =>
            have HR : Hid (ovVal ts s0.size = .tuple #[.string ⟨#[]⟩, .bool false]) := by
              unfold ovVal Hid
              rw [if_neg]
              intro h
              have := List.all_eq_true.1 h j (List.mem_range.2 hlt)
              rw [hone] at this
              cases this
            clear hone HA V2
            go_wp2_with fail
            go_ret2
            exact ⟨by rw [HR.out]; rfl, HB.out⟩
        · obtain rfl : j = s0.size := by omega
          have HR : Hid (ovVal ts s0.size = .tuple #[.string (bs ((List.range s0.size).map fun k => lastB (colOf ts k))), .bool true]) := by
            unfold ovVal Hid
            rw [if_pos (List.all_eq_true.2 fun k hk => HA.out k (List.mem_range.1 hk))]
          have hconv := run_convert_bytes_arg (P := Tryz.prog) wr 106 5 und106 Tryz.underlying5 (w.heap.size + 1) 0 s0.size s0.size (((List.range s0.size).map fun k => lastB (colOf ts k)).map fun b => (b.toNat : Int)) (by simp) (fun i hi => by
            rw [Nat.zero_add, V.out.row i hi, if_pos hi]
            simp [List.getD, hi]) 9 Tryz.underlying9
          rw [strOfNums_bytes] at hconv
          have HB := Lib.hid V.out.bel
          clear V HA
          go_wp2_with fail
          go_ret2
          exact ⟨by rw [HR.out]; rfl, HB.out⟩
def sameSz (ts : List ByteArray) : Bool := ts.all fun s => s.size == (ts.getD 0 ByteArray.empty).size
/-- What laying texts over each other gives. -/
def ovRes (ts : List ByteArray) : Value := if ts = [] then .tuple #[.string ⟨#[]⟩, .bool false] else if sameSz ts = true then ovVal ts (ts.getD 0 ByteArray.empty).size else .tuple #[.string ⟨#[]⟩, .bool false]
theorem getD_mem {ts : List ByteArray} {j : Nat} (h : j < ts.length) : ts.getD j ByteArray.empty ∈ ts := by
  rw [List.getD, List.getElem?_eq_getElem h]; exact List.getElem_mem h
/-- sheet.Overlay. -/
theorem sOverlay (p : Option Addr) (cap : Nat) (ts : List ByteArray) (w : World) (hts : ts.length ≤ 1000000) (hk : ∀ j, j < ts.length → (ts.getD j ByteArray.empty).size ≤ 1000000) (hp : StrsAt w p ts) :
    Calls Tryz.prog 50 #[.slice p ts.length cap] w fun e w' => e = .returned (ovRes ts) ∧ Below w.heap.size w w' := by
  by_cases h0 : ts = []
  · subst h0
    refine (overlay_none p cap w).mono ?_
    rintro e w' ⟨rfl, rfl⟩
    exact ⟨by rw [ovRes, if_pos rfl], Below.refl _ _⟩
  · have hl : 0 < ts.length := List.length_pos_iff.2 h0
    cases hs : sameSz ts with
    | true =>
      have hR : ovRes ts = ovVal ts (ts.getD 0 ByteArray.empty).size := by rw [ovRes, if_neg h0, if_pos hs]
      rw [hR]
      exact overlay_same p cap _ ts w hl hts (hk 0 hl) (fun j hj => by
        have := List.all_eq_true.1 hs _ (getD_mem hj)
        exact eq_of_beq this) hp
    | false =>
      have hR : ovRes ts = .tuple #[.string ⟨#[]⟩, .bool false] := by rw [ovRes, if_neg h0, if_neg (by rw [hs]; decide)]
      rw [hR]
      obtain ⟨s, hs1, hs2⟩ := List.all_eq_false.1 hs
      obtain ⟨d, hd, hd2⟩ := List.getElem_of_mem hs1
      have hd3 : ts.getD d ByteArray.empty = s := by rw [List.getD, List.getElem?_eq_getElem hd]; exact hd2
      refine (overlay_diff p cap d ts w hts hk hd (by rw [hd3]; intro e; exact hs2 (beq_iff_eq.2 e)) hp).mono ?_
      rintro e w' ⟨rfl, rfl⟩
      exact ⟨rfl, Below.refl _ _⟩
end Go.Proofs.YtmfhpddeclggfaaGreatDoor
namespace Go.Proofs.YtmfhpddeclggfaaGreatDoor
open Go.RowKit
theorem sn1 : rdRes [45, 48] = .tuple #[.int .i64 0, .int .i64 7] := by kernel_rfl
theorem sn2 : txRes ⟨#[97, 98]⟩ = .tuple #[.string ⟨#[61, 54, 49, 54, 50]⟩, .int .i64 0] := by kernel_rfl
theorem sn3 : rtRes (rdText [61, 54]) = .tuple #[.string ⟨#[]⟩, .int .i64 7] := by kernel_rfl
theorem sn4 : ovRes [⟨#[97, 63, 99]⟩, ⟨#[97, 98, 63]⟩] = .tuple #[.string ⟨#[97, 98, 99]⟩, .bool true] := by kernel_rfl
theorem sn5 : ovRes [⟨#[97, 63]⟩, ⟨#[98, 63]⟩] = .tuple #[.string ⟨#[]⟩, .bool false] := by kernel_rfl
theorem sn6 : spRes (spk [64, 49, 50, 32, 51, 32, 120]) = .tuple #[.int .i64 12, .bool true] := by kernel_rfl
theorem sn7 : spRes (spk [64, 49, 50]) = .tuple #[.int .i64 0, .bool false] := by kernel_rfl
theorem sn8 : bs (Lib.itoa (-40)) = ⟨#[45, 52, 48]⟩ := by decide +kernel
theorem sn9 : chk [] = 0 := by decide +kernel
theorem sn10 : chk [97] = 97 := by decide +kernel
def sanLs : List GL := [⟨1, none, 0, [⟨#[111, 97, 107]⟩, ⟨#[55]⟩]⟩, ⟨2, none, 0, []⟩]
/-- The text of the sheet that is tried. -/
def sanT : ByteArray := bs (waText sanLs)
def sanTL : List UInt8 := [64, 49, 32, 50, 32, 111, 97, 107, 32, 55, 32, 52, 55, 57, 54, 10]
theorem sn11 : waErr sanLs = 0 := by decide +kernel
theorem wa_plain (a b : GL) (p q : Option Addr) (c d : Nat) : waRes [⟨a.n, p, c, a.ws⟩, ⟨b.n, q, d, b.ws⟩] = waRes [a, b] := rfl
theorem strs_two (W : World) (a b : ByteArray) (e : TypeId) : StrsAt (W.alloc (.cells #[.string a, .string b] e)) (some ⟨W.heap.size, 0, none⟩) [a, b] := by
  refine Or.inr ⟨W.heap.size, 0, rfl, by simp, fun j hj => ?_⟩
  rw [Nat.zero_add]
  match j, hj with
  | 0, _ => exact new_at W _ _ _ _ rfl
  | 1, _ => exact new_at W _ _ _ _ rfl
def sanW (w : World) : World := ((w.alloc (.cells #[.string ⟨#[111, 97, 107]⟩, .string ⟨#[55]⟩] 9)).alloc (.cells #[] 9)).alloc (.cells #[.slice (some ⟨w.heap.size, 0, none⟩) 2 2, .slice (some ⟨w.heap.size + 1, 0, none⟩) 0 0] 37)
theorem sanW_below (w : World) : Below w.heap.size w (sanW w) := by
  unfold sanW
  exact ((below_alloc1 w _).alloc (by simp) _).alloc (by simp; omega) _
theorem sanW_size (w : World) : (sanW w).heap.size = w.heap.size + 3 := by simp [sanW]
def sanQ (w : World) : List GL := [⟨0, some ⟨w.heap.size, 0, none⟩, 2, [⟨#[111, 97, 107]⟩, ⟨#[55]⟩]⟩, ⟨0, some ⟨w.heap.size + 1, 0, none⟩, 0, []⟩]
theorem sanW_lists (w : World) : ListsAt (sanW w) (some ⟨w.heap.size + 1 + 1, 0, none⟩) (sanQ w) := by
  have hs : ((w.alloc (.cells #[.string ⟨#[111, 97, 107]⟩, .string ⟨#[55]⟩] 9)).alloc (.cells #[] 9)).heap.size = w.heap.size + 1 + 1 := by simp
  refine ⟨Or.inr ⟨_, 0, rfl, by rw [sanW_size]; omega, fun j hj => ?_⟩, fun j hj => ?_⟩
  · have h : ∀ k u, (#[Value.slice (some ⟨w.heap.size, 0, none⟩) 2 2, .slice (some ⟨w.heap.size + 1, 0, none⟩) 0 0] : Array Value).toList[k]? = some u → (sanW w).cell? ⟨w.heap.size + 1 + 1, k, none⟩ = some u := fun k u h => by
      have := new_at ((w.alloc (.cells #[.string ⟨#[111, 97, 107]⟩, .string ⟨#[55]⟩] 9)).alloc (.cells #[] 9)) _ 37 k u h
      rw [hs] at this
      exact this
    rw [Nat.zero_add]
    match j, hj with
    | 0, _ => exact h 0 _ rfl
    | 1, _ => exact h 1 _ rfl
  · match j, hj with
    | 0, _ =>
      have h1 := strs_two w ⟨#[111, 97, 107]⟩ ⟨#[55]⟩ 9
      exact ((h1.below (below_alloc1 _ _)).below (below_alloc1 _ _))
    | 1, _ => exact Or.inl rfl
theorem sanQ_res (w : World) : waRes (numbered (sanQ w)) = .tuple #[.string sanT, .int .i64 0] := by
  have h : waRes (numbered (sanQ w)) = waRes sanLs := rfl
  rw [h, waRes, if_pos sn11]
  rfl
theorem sanSheet (w : World) (he : Env w) :
    Calls Tryz.prog 38 #[.slice (some ⟨w.heap.size + 1 + 1, 0, none⟩) 2 2] (sanW w) fun e w' => e = .returned (.tuple #[.string sanT, .int .i64 0]) ∧ Below w.heap.size w w' := by
  have h := sSheet_ok (some ⟨w.heap.size + 1 + 1, 0, none⟩) 2 (sanQ w) (sanW w) (by show 2 ≤ 400; decide) (fun j hj => match j, hj with
    | 0, _ => ⟨by show 2 ≤ maxLen; unfold maxLen; decide, fun k => match k with
      | 0 => by show (3 : Nat) ≤ maxLen; unfold maxLen; decide
      | 1 => by show (1 : Nat) ≤ maxLen; unfold maxLen; decide
      | k + 2 => by show (0 : Nat) ≤ maxLen; exact Nat.zero_le _⟩
    | 1, _ => ⟨Nat.zero_le _, fun k => Nat.zero_le _⟩) (sanW_lists w) (he.next (sanW_below w))
  rw [sanQ_res, show (sanQ w).length = 2 from rfl] at h
  exact h.mono fun e w' ⟨h1, h2⟩ => ⟨h1, (sanW_below w).trans (h2.mono (by rw [sanW_size]; omega))⟩
/-- What putting the two copies together leaves, as far as it is asked for. -/
def BookP (w : World) (e : Ending) (w' : World) : Prop :=
  Below w.heap.size w w' ∧ ∃ (b o c1 c2 c3 k1 k2 : Nat) (pc pg q1 q2 : Option Addr), e = .returned (.tuple #[.agg #[.slice (some ⟨b, o, none⟩) 2 c1, .slice pc 0 c2, .slice pg 0 c3], .int .i64 0]) ∧ b < w'.heap.size ∧
    w'.cell? ⟨b, o + 2, none⟩ = some (.slice q1 1 k1) ∧ w'.cell? ⟨b, o + 6, none⟩ = some (.slice q2 2 k2)
set_option maxRecDepth 100000 in
set_option maxHeartbeats 1000000 in
theorem sanity_of (w : World) (he : Env w)
    (CC : Hid (∀ (W : World) (p : Option Addr) (cap : Nat), Env W → StrsAt W p [sanT, sanT.extract 1 sanT.size] → Calls Tryz.prog 53 #[.slice p 2 cap] W (BookP W))) :
    Calls Tryz.prog 19 #[] w fun e w' => e = .returned (.bool true) ∧ Below w.heap.size w w' := by
  have HE := Lib.hid he
  have C1 := sReadInt ⟨#[45, 48]⟩ w (by decide) he
  rw [show (ByteArray.mk #[45, 48]).data.toList = [45, 48] from rfl, sn1] at C1
  have D1 := Lib.hid C1
  clear he C1
  go_enter Tryz.func19, Tryz.ntmps19
  go_wp2_with fail
  refine D1.out.mono ?_
  rintro e w1 ⟨rfl, hb⟩
  have B1 := Lib.hid hb
  clear D1 hb
  go_wp2_with fail
  have C2 := sText ⟨#[97, 98]⟩ w1
  rw [sn2] at C2
  refine C2.mono ?_
  rintro e w2 ⟨rfl, hb⟩
  have B2 : Hid (Below w.heap.size w w2) := B1.out.trans (hb.mono B1.out.size)
  clear C2 hb B1
  go_wp2_with fail
  have C3 := sReadTextAll ⟨#[61, 54]⟩ w2 (by decide)
  rw [show (ByteArray.mk #[61, 54]).data.toList = [61, 54] from rfl, sn3] at C3
  refine C3.mono ?_
  rintro e w3 ⟨rfl, hb⟩
  have B3 : Hid (Below w.heap.size w w3) := B2.out.trans (hb.mono B2.out.size)
  clear C3 hb B2
  go_wp2_with fail
  have C4 := sOverlay (some ⟨w3.heap.size, 0, none⟩) 2 [⟨#[97, 63, 99]⟩, ⟨#[97, 98, 63]⟩] (w3.alloc (.cells #[.string ⟨#[97, 63, 99]⟩, .string ⟨#[97, 98, 63]⟩] 9)) (by decide) (fun j hj => match j, hj with | 0, _ => by decide | 1, _ => by decide) (strs_two _ _ _ _)
  rw [sn4, World.size_alloc] at C4
  refine C4.mono ?_
  rintro e w4 ⟨rfl, hb⟩
  have B4 : Hid (Below w.heap.size w w4) := (B3.out.trans ((below_alloc1 _ _).mono B3.out.size)).trans (hb.mono (Nat.le_succ_of_le B3.out.size))
  clear C4 hb B3
  go_wp2_with fail
  have C5 := sOverlay (some ⟨w4.heap.size, 0, none⟩) 2 [⟨#[97, 63]⟩, ⟨#[98, 63]⟩] (w4.alloc (.cells #[.string ⟨#[97, 63]⟩, .string ⟨#[98, 63]⟩] 9)) (by decide) (fun j hj => match j, hj with | 0, _ => by decide | 1, _ => by decide) (strs_two _ _ _ _)
  rw [sn5, World.size_alloc] at C5
  refine C5.mono ?_
  rintro e w5 ⟨rfl, hb⟩
  have B5 : Hid (Below w.heap.size w w5) := (B4.out.trans ((below_alloc1 _ _).mono B4.out.size)).trans (hb.mono (Nat.le_succ_of_le B4.out.size))
  clear C5 hb B4
  go_wp2_with fail
  have C6 := sSpeaks ⟨#[64, 49, 50, 32, 51, 32, 120]⟩ w5 (by decide) (HE.out.next B5.out)
  rw [show (ByteArray.mk #[64, 49, 50, 32, 51, 32, 120]).data.toList = [64, 49, 50, 32, 51, 32, 120] from rfl, sn6] at C6
  refine C6.mono ?_
  rintro e w6 ⟨rfl, hb⟩
  have B6 : Hid (Below w.heap.size w w6) := B5.out.trans (hb.mono B5.out.size)
  clear C6 hb B5
  go_wp2_with fail
  have C7 := sSpeaks ⟨#[64, 49, 50]⟩ w6 (by decide) (HE.out.next B6.out)
  rw [show (ByteArray.mk #[64, 49, 50]).data.toList = [64, 49, 50] from rfl, sn7] at C7
  refine C7.mono ?_
  rintro e w7 ⟨rfl, hb⟩
  have B7 : Hid (Below w.heap.size w w7) := B6.out.trans (hb.mono B6.out.size)
  clear C7 hb B6
  go_wp2_with fail
  have C8 := sInt (-40) w7 (i64_small (by decide) (by decide)) (HE.out.next B7.out)
  rw [sn8] at C8
  refine C8.mono ?_
  rintro e w8 ⟨rfl, hb⟩
  have B8 : Hid (Below w.heap.size w w8) := B7.out.trans (hb.mono B7.out.size)
  clear C8 hb B7
  go_wp2_with fail
  have C9 := sCheck ⟨#[]⟩ w8 (by decide)
  rw [show (ByteArray.mk #[]).data.toList = [] from rfl, sn9] at C9
  refine C9.mono ?_
  rintro e w' ⟨rfl, rfl⟩
  clear C9
  go_wp2_with fail
  have C10 := sCheck ⟨#[97]⟩ w' (by decide)
  rw [show (ByteArray.mk #[97]).data.toList = [97] from rfl, sn10] at C10
  refine C10.mono ?_
  rintro e w9 ⟨rfl, rfl⟩
  clear C10
  go_wp2_with fail
  have C11 := sanSheet w9 (HE.out.next B8.out)
  refine C11.mono ?_
  rintro e w10 ⟨rfl, hb⟩
  have B10 : Hid (Below w.heap.size w w10) := B8.out.trans (hb.mono B8.out.size)
  clear C11 hb B8
  obtain ⟨T, hT⟩ : ∃ T, Hid (sanT = T) := ⟨_, rfl⟩
  rw [hT.out]
  have hsz : T.size = 26 := by rw [← hT.out]; decide +kernel
  go_wp2_with fail
  have C12 := CC.out (w10.alloc (.cells #[.string T, .string (T.extract 1 26)] 9)) (some ⟨w10.heap.size, 0, none⟩) 2 ((HE.out.next B10.out).next (below_alloc1 _ _)) (by rw [hT.out, hsz]; exact strs_two _ _ _ _)
  refine C12.mono ?_
  rintro e w11 ⟨hb, b, o, c1, c2, c3, k1, k2, pc, pg, q1, q2, rfl, hbl, hq1, hq2⟩
  have B11 : Hid (Below w.heap.size w w11) := (B10.out.trans ((below_alloc1 _ _).mono B10.out.size)).trans (hb.mono (by rw [World.size_alloc]; exact Nat.le_succ_of_le B10.out.size))
  have hA := below_alloc1 w11 (.cells #[.slice (some ⟨b, o, none⟩) 2 c1, .slice pc 0 c2, .slice pg 0 c3] 78)
  have g1 : (w11.alloc (.cells #[.slice (some ⟨b, o, none⟩) 2 c1, .slice pc 0 c2, .slice pg 0 c3] 78)).cell? ⟨b, o + 2, none⟩ = some (.slice q1 1 k1) := by rw [hA.cell (p := ⟨b, o + 2, none⟩) hbl]; exact hq1
  have g2 : (w11.alloc (.cells #[.slice (some ⟨b, o, none⟩) 2 c1, .slice pc 0 c2, .slice pg 0 c3] 78)).cell? ⟨b, o + 6, none⟩ = some (.slice q2 2 k2) := by rw [hA.cell (p := ⟨b, o + 6, none⟩) hbl]; exact hq2
  clear C12 hb B10 hq1 hq2 hbl hA hsz
  go_wp2_with fail
  go_ret
  exact ⟨rfl, B11.out.alloc B11.out.size _⟩
end Go.Proofs.YtmfhpddeclggfaaGreatDoor
namespace Go.Proofs.YtmfhpddeclggfaaGreatDoor
open Go.RowKit
/-- The book that is made: its lines, in a row of their own; no gaps, no clashes. -/
structure Bk (W : World) (b B : Nat) (v : Value) (m : Nat) (xs : List Value) : Prop where
  c0 : W.cell? ⟨b, 0, none⟩ = some v
  c1 : W.cell? ⟨b, 1, none⟩ = some (.slice none 0 0)
  c2 : W.cell? ⟨b, 2, none⟩ = some (.slice none 0 0)
  fz : ∀ o, W.frozen? ⟨b, o, none⟩ = false
  own : W.ownsRow B 87 4 v m xs
  lt : b < B
  hb : B ≤ W.heap.size
theorem Bk.below {W W' : World} {b B : Nat} {v : Value} {m : Nat} {xs : List Value} (h : Bk W b B v m xs) (hb : Below W.heap.size W W') : Bk W' b B v m xs := by
  have hl : b < W.heap.size := Nat.lt_of_lt_of_le h.lt h.hb
  exact ⟨(hb.cell (p := ⟨b, 0, none⟩) hl).trans h.c0, (hb.cell (p := ⟨b, 1, none⟩) hl).trans h.c1, (hb.cell (p := ⟨b, 2, none⟩) hl).trans h.c2, fun o => (hb.frozen (p := ⟨b, o, none⟩) hl).trans (h.fz o), ownsRow_keep h.own hb, h.lt, Nat.le_trans h.hb hb.size⟩
/-- The world behind a line that is appended. -/
theorem bk_next {W w1 : World} {b B base : Nat} {v v' : Value} {m : Nat} {xs ys : List Value} {o : Obj} (h : Bk W b B v m xs) (hbase : base ≤ b)
    (hown : w1.ownsRow B 87 4 v' (m + 1) ys) (hg : (W.alloc o).drew.grownBy w1 v.ownBlock) :
    Bk (w1.setCell ⟨b, 0, none⟩ v') b B v' (m + 1) ys ∧ Below base W (w1.setCell ⟨b, 0, none⟩ v') := by
  have hr : ∀ k, v.ownBlock = some k → B ≤ k ∧ k < W.heap.size := fun k hk => h.own.lt k hk
  have hlt := h.lt
  have hle := h.hb
  have hga : W.grownBy (W.alloc o).drew none := grown_tr (grown_al _ _) (grown_dr _)
  have hs : (W.alloc o).drew.heap.size = W.heap.size + 1 := by show (W.alloc _).heap.size = _; simp
  have hsz := hg.size
  rw [hs] at hsz
  have hblk : w1.heap[b]? = W.heap[b]? := (hg.block b (by omega) (fun e => by have := hr b e.symm; omega)).trans (hga.block b (by omega) (by simp))
  have hc : ∀ o, w1.cell? ⟨b, o, none⟩ = W.cell? ⟨b, o, none⟩ := fun o => World.cell?_of_block (a := ⟨b, o, none⟩) hblk
  have hne : ∀ o, o ≠ 0 → (⟨b, 0, none⟩ : Addr) ≠ ⟨b, o, none⟩ := fun o ho e => ho (by have := congrArg Addr.off e; simpa using this.symm)
  refine ⟨⟨World.cell?_setCell_same _ _ _ ((hc 0).trans h.c0), ?_, ?_, fun o => ?_, ?_, hlt, ?_⟩, ?_⟩
  · rw [World.cell?_setCell_other _ _ _ _ (hne 1 (by decide))]; exact (hc 1).trans h.c1
  · rw [World.cell?_setCell_other _ _ _ _ (hne 2 (by decide))]; exact (hc 2).trans h.c2
  · rw [World.frozen?_setCell]; exact (World.frozen?_of_block (a := ⟨b, o, none⟩) hblk).trans (h.fz o)
  · refine hown.kept (grownBy_setCellAt w1 b 0 _) ?_
    cases hv : v'.ownBlock with
    | none => exact .inl rfl
    | some g => exact .inr (fun e => by have := (hown.lt g hv).1; cases e; omega)
  · simp only [World.size_setCell]; omega
  · exact ((below_gr hga (by omega) (by simp)).trans (below_gr hg (by omega) (fun k hk => by have := hr k hk; omega))).trans (below_gr (grownBy_setCellAt w1 b 0 _) (by omega) (fun k hk => by cases hk; exact hbase))
/-- What putting two lines together leaves. -/
def CoP (W : World) (e : Ending) (w' : World) : Prop := Below W.heap.size W w' ∧ ∃ (b c k1 k2 : Nat) (q1 q2 : Option Addr), e = .returned (.agg #[.slice (some ⟨b, 0, none⟩) 2 c, .slice none 0 0, .slice none 0 0]) ∧ b < w'.heap.size ∧ w'.cell? ⟨b, 2, none⟩ = some (.slice q1 1 k1) ∧ w'.cell? ⟨b, 6, none⟩ = some (.slice q2 2 k2)
theorem cop_mk {W w' : World} {b c k1 k2 : Nat} {q1 q2 : Option Addr} (h : Below W.heap.size W w') (hl : b < w'.heap.size) (h2 : w'.cell? ⟨b, 2, none⟩ = some (.slice q1 1 k1)) (h6 : w'.cell? ⟨b, 6, none⟩ = some (.slice q2 2 k2)) :
    CoP W (.returned (.agg #[.slice (some ⟨b, 0, none⟩) 2 c, .slice none 0 0, .slice none 0 0])) w' := ⟨h, b, c, k1, k2, q1, q2, rfl, hl, h2, h6⟩
set_option maxRecDepth 100000 in
set_option maxHeartbeats 4000000 in
theorem collate_san (t1 t2 : ByteArray) (sb : Nat) (p0 p1 : Option Addr) (c0 c1 B0 : Nat) (W : World) (he : Env W) (ht1 : t1.size ≤ 1000000) (ht2 : t2.size ≤ 1000000)
    (h0 : W.cell? ⟨sb, 0, none⟩ = some (.slice p0 2 c0)) (h1 : W.cell? ⟨sb, 1, none⟩ = some (.slice p1 1 c1)) (hs0 : ScAt B0 W p0 [⟨1, t1, true⟩, ⟨2, t2, true⟩]) (hs1 : ScAt B0 W p1 [⟨2, t2, true⟩]) :
    Calls Tryz.prog 108 #[.slice (some ⟨sb, 0, none⟩) 2 2] W (CoP W) := by
  have HE := Lib.hid he
  have LY := Lib.hid (lay_san t1 t2 sb p0 p1 c0 c1 B0 (W.alloc (.cells #[.slice none 0 0, .slice none 0 0, .slice none 0 0] 78)) (cell_al h0 _) (cell_al h1 _) (hs0.below (below_alloc1 _ _)) (hs1.below (below_alloc1 _ _)))
  have HT1 := Lib.hid ht1
  have HT2 := Lib.hid ht2
  have hr0 : ∀ V, Below (W.alloc (.cells #[.slice none 0 0, .slice none 0 0, .slice none 0 0] 78)).heap.size (W.alloc (.cells #[.slice none 0 0, .slice none 0 0, .slice none 0 0] 78)) V → V.cell? ⟨W.heap.size, 0, none⟩ = some (.slice none 0 0) ∧ V.cell? ⟨W.heap.size, 1, none⟩ = some (.slice none 0 0) ∧ V.cell? ⟨W.heap.size, 2, none⟩ = some (.slice none 0 0) ∧ ∀ o, V.frozen? ⟨W.heap.size, o, none⟩ = false := fun V hb =>
    ⟨(hb.cell (p := ⟨W.heap.size, 0, none⟩) (by simp)).trans (nw_at W _ 78 0 _ rfl), (hb.cell (p := ⟨W.heap.size, 1, none⟩) (by simp)).trans (nw_at W _ 78 1 _ rfl), (hb.cell (p := ⟨W.heap.size, 2, none⟩) (by simp)).trans (nw_at W _ 78 2 _ rfl), fun o => (hb.frozen (p := ⟨W.heap.size, o, none⟩) (by simp)).trans (frozen_new W _ _ o)⟩
  have HR0 := Lib.hid hr0
  clear he h0 h1 hs0 hs1 ht1 ht2 hr0
  go_enter Tryz.func108, Tryz.ntmps108
  go_wp2_with fail
  refine LY.out.mono ?_
  rintro e W1 ⟨D, M, rfl, hla, hb1⟩
  go_wp2_with fail
  have hsW : W.heap.size + 1 ≤ W1.heap.size := by have := hb1.size; simpa using this
  have HK0 : Hid (Bk (W1.alloc (.cells #[.slice none 0 0, .slice none 0 0, .slice none 0 0] 78)) W1.heap.size (W1.heap.size + 1) (.slice none 0 0) 0 []) :=
    ⟨nw_at W1 _ 78 0 _ rfl, nw_at W1 _ 78 1 _ rfl, nw_at W1 _ 78 2 _ rfl, fun o => frozen_new W1 _ _ o, World.ownsRow_nil _ _ _ _, Nat.lt_succ_self _, by simp⟩
  have hz : ∀ V, Below W1.heap.size W1 V → Below W.heap.size W V ∧ V.cell? ⟨D, 0, none⟩ = some (.int .i64 2) ∧ La 2 [0] [0, 1] t1 t2 D M V ∧ Env V ∧ Below (W.alloc (.cells #[.slice none 0 0, .slice none 0 0, .slice none 0 0] 78)).heap.size (W.alloc (.cells #[.slice none 0 0, .slice none 0 0, .slice none 0 0] 78)) V := fun V hb => by
    have b1 : Below W.heap.size W V := ((below_alloc1 W _).trans (hb1.mono (by simp))).trans (hb.mono (by omega))
    obtain ⟨R, L, hd, -⟩ := la_read (by simp) (by simp) (hla.below hb)
    exact ⟨b1, hd.c0, hla.below hb, HE.out.next b1, hb1.trans (hb.mono (by simpa using hsW))⟩
  have HZ := Lib.hid hz
  obtain ⟨W2, hW2⟩ : ∃ W2, W1.alloc (.cells #[.slice none 0 0, .slice none 0 0, .slice none 0 0] 78) = W2 := ⟨_, rfl⟩
  have HB2 : Hid (Below W1.heap.size W1 W2) := by rw [← hW2]; exact below_alloc1 _ _
  obtain ⟨bb, hbb⟩ : ∃ bb, W1.heap.size = bb := ⟨_, rfl⟩
  rw [hW2, hbb] at HK0
  rw [hbb] at HZ HB2 hsW ⊢
  rw [hW2]
  have HSW := Lib.hid hsW
  clear hla hb1 LY hW2 hbb hsW hz
  have HSZ : Hid (bb < W2.heap.size) := Nat.lt_of_lt_of_le HK0.out.lt HK0.out.hb
  obtain ⟨-, d0, hl0, e0, -⟩ := HZ.out _ HB2.out
  have F1 := Lib.hid (found_1 (by simp) (by simp) hl0 HT1.out e0)
  clear hl0 e0
  refine wp_loop_rounds 3 ?_
  rw [rounds_succ]
  go_wp2_with fail
  refine F1.out.mono ?_
  rintro e W3 ⟨g, cap, n', p, k, c, pc, cc, rfl, hg1, hg2, ⟨q0, q1, q2, q3⟩, hb⟩
  have HK1 := Lib.hid (HK0.out.below hb)
  have HB3 : Hid (Below bb W1 W3) := HB2.out.trans (hb.mono (Nat.le_of_lt HSZ.out))
  have c0 := HK1.out.c0
  clear F1 HK0 HB2 hb d0
  go_wp2_with fail
  have cx : (W3.alloc (.cells #[.int .i64 n', .slice p k c, .slice pc 1 cc, .bool false] 87)).cell? ⟨bb, 0, none⟩ = some (.slice none 0 0) := cell_al c0 _
  have fx : W3.frozen? ⟨bb, 0, none⟩ = false := HK1.out.fz 0
  have hbW : Hid (bb + 1 ≤ W3.heap.size) := HK1.out.hb
  have ao : ∀ x, Value.ownBlock (.slice none 0 0) = some x → bb + 1 ≤ x ∧ x < W3.heap.size := fun x hx => HK1.out.own.lt x hx
  have aD : some bb ≠ Value.ownBlock (.slice none 0 0) := fun e => by have h5 := ao bb e.symm; omega
  have ag : Value.ownBlock (.slice none 0 0) ≠ some g := by simp [Value.ownBlock]
  have HG2 := Lib.hid hg2
  have bs0 : bb < (W3.alloc (.cells #[.int .i64 n', .slice p k c, .slice pc 1 cc, .bool false] 87)).drew.heap.size := by show bb < (W3.alloc _).heap.size; rw [World.size_alloc]; have := hbW.out; omega
  have gs0 : g < (W3.alloc (.cells #[.int .i64 n', .slice p k c, .slice pc 1 cc, .bool false] 87)).drew.heap.size := by show g < (W3.alloc _).heap.size; rw [World.size_alloc]; omega
  have fa : (W3.alloc (.cells #[.int .i64 n', .slice p k c, .slice pc 1 cc, .bool false] 87)).drew.frozen? ⟨bb, 0, none⟩ = false := (World.frozen?_of_block (a := ⟨bb, 0, none⟩) ((grown_al W3 _).block bb (by have := hbW.out; omega) (by simp))).trans fx
  have gb1 : g ≠ bb := by have h5 := HSZ.out; omega
  have gb2 : bb ≠ g := fun e => gb1 e.symm
  clear hg1 hg2 ao
  obtain ⟨i0, hi, hz0, hz1, hz2⟩ := info_parts inf87
  rw [show Op.load 75 (Operand.tmp 36) = id (Op.load 75 (Operand.tmp 36)) from rfl]
  go_region_held3 (fun w' => w'.cell? ⟨g, 0, none⟩ = some (.int .i64 n') ∧ w'.cell? ⟨g, 1, none⟩ = some (.slice p k c) ∧ w'.cell? ⟨g, 2, none⟩ = some (.slice pc 1 cc) ∧ w'.cell? ⟨g, 3, none⟩ = some (.bool false))
    (first
      | go_keep
      | (go_split_ands
         refine ⟨?_, ?_, ?_, ?_⟩ <;> (rw [hgrow.cell_far _ gs0 (Ne.symm ag)]; assumption)))
    ((refine step_append_lies _ (by rfl) _ _ _ (by rfl) (bb + 1) 87 i0 _ 4 64 Tryz.underlying75 hi hz0 hz1 hz2 rfl (by omega) (.slice none 0 0) 0 ([]) (by rfl) ((HK1.out.own.alloc _).drew)
        ⟨W3.heap.size, 0, none⟩ 1 1 [.int .i64 n', .slice p k c, .slice pc 1 cc, .bool false] (by rfl) (by rfl) (World.news_of_block (cs := #[.int .i64 n', .slice p k c, .slice pc 1 cc, .bool false]) (t := 87) (fr := (0, 0)) (heap_alloc_new W3 _)) (by simp [Value.oneCell'])
        (by omega) (by unfold maxLen; omega) (by omega) (by have h5 := hbW.out; simp; omega) (W3.heap.size + 1) (by simp) ?_; intro gg cg w9 hown1 hgrow hat hlt; have hc9 : w9.cell? ⟨bb, 0, none⟩ = some (.slice none 0 0) := hgrow.cell (cell_al c0 _) aD; have hf9 : w9.frozen? ⟨bb, 0, none⟩ = false := (World.frozen?_of_block (a := ⟨bb, 0, none⟩) (hgrow.block bb bs0 aD)).trans fa))
  all_goals
    obtain ⟨zk, zb⟩ := bk_next (base := bb) (v' := .slice (some ⟨gg, 0, none⟩) 1 cg) HK1.out (Nat.le_refl _) hown1 hgrow
    obtain ⟨W4, hW4⟩ : ∃ W4, w9.setCell ⟨bb, 0, none⟩ (.slice (some ⟨gg, 0, none⟩) 1 cg) = W4 := ⟨_, rfl⟩
    rw [hW4] at zk zb ⊢
    have HB4 : Hid (Below bb W1 W4) := HB3.out.trans zb
    obtain ⟨xs1, hxs1⟩ : ∃ xs1, Hid (xs1 = [Value.int .i64 n', .slice p k c, .slice pc 1 cc, .bool false]) := ⟨_, rfl⟩
    have HX : Hid (Bk W4 bb (bb + 1) (.slice (some ⟨gg, 0, none⟩) 1 cg) 1 xs1) := by rw [hxs1.out]; exact zk
    clear zk zb hown1 hgrow hat hlt hc9 hf9 cx fx aD ag bs0 gs0 fa gb1 gb2 q0 q1 q2 q3 c0 hi hz0 hz1 hz2 HG2 HB3 HK1 hbW HSZ
    rename_i hh
    clear hh hW4
    obtain ⟨-, d0, hl0, e0, -⟩ := HZ.out _ HB4.out
    have HSZ4 : Hid (bb < W4.heap.size) := Nat.lt_of_lt_of_le HX.out.lt HX.out.hb
    have F1 := Lib.hid (found_2 (by simp) (by simp) hl0 HT2.out e0)
    clear hl0 e0
    go_wp2_with fail
    rw [rounds_succ]
    go_wp2_with fail
    refine F1.out.mono ?_
    rintro e W5 ⟨g, cap, n1, p, k, c, pc, cc, rfl, hg1, hg2, ⟨q0, q1, q2, q3⟩, hb⟩
    have HK5 := Lib.hid (HX.out.below hb)
    have HB5 : Hid (Below bb W1 W5) := HB4.out.trans (hb.mono (Nat.le_of_lt HSZ4.out))
    have hgne : gg ≠ g := by have := (HX.out.own.lt gg (by simp [Value.ownBlock])).2; omega
    have c0 := HK5.out.c0
    clear F1 HX HB4 hb d0
    go_wp2_with fail
    have cx : (W5.alloc (.cells #[.int .i64 n1, .slice p k c, .slice pc 2 cc, .bool false] 87)).cell? ⟨bb, 0, none⟩ = some (.slice (some ⟨gg, 0, none⟩) 1 cg) := cell_al c0 _
    have fx : W5.frozen? ⟨bb, 0, none⟩ = false := HK5.out.fz 0
    have hbW : Hid (bb + 1 ≤ W5.heap.size) := HK5.out.hb
    have ao : ∀ x, Value.ownBlock (.slice (some ⟨gg, 0, none⟩) 1 cg) = some x → bb + 1 ≤ x ∧ x < W5.heap.size := fun x hx => HK5.out.own.lt x hx
    have aD : some bb ≠ Value.ownBlock (.slice (some ⟨gg, 0, none⟩) 1 cg) := fun e => by have h5 := ao bb e.symm; omega
    have ag : Value.ownBlock (.slice (some ⟨gg, 0, none⟩) 1 cg) ≠ some g := by intro e; exact hgne (Option.some.inj e)
    have HG2 := Lib.hid hg2
    have bs0 : bb < (W5.alloc (.cells #[.int .i64 n1, .slice p k c, .slice pc 2 cc, .bool false] 87)).drew.heap.size := by show bb < (W5.alloc _).heap.size; rw [World.size_alloc]; have := hbW.out; omega
    have gs0 : g < (W5.alloc (.cells #[.int .i64 n1, .slice p k c, .slice pc 2 cc, .bool false] 87)).drew.heap.size := by show g < (W5.alloc _).heap.size; rw [World.size_alloc]; omega
    have fa : (W5.alloc (.cells #[.int .i64 n1, .slice p k c, .slice pc 2 cc, .bool false] 87)).drew.frozen? ⟨bb, 0, none⟩ = false := (World.frozen?_of_block (a := ⟨bb, 0, none⟩) ((grown_al W5 _).block bb (by have := hbW.out; omega) (by simp))).trans fx
    have gb1 : g ≠ bb := by have h5 := HSZ4.out; omega
    have gb2 : bb ≠ g := fun e => gb1 e.symm
    clear hg1 hg2 ao
    obtain ⟨i0, hi, hz0, hz1, hz2⟩ := info_parts inf87
    rw [show Op.load 75 (Operand.tmp 36) = id (Op.load 75 (Operand.tmp 36)) from rfl]
    go_region_held3 (fun w' => w'.cell? ⟨g, 0, none⟩ = some (.int .i64 n1) ∧ w'.cell? ⟨g, 1, none⟩ = some (.slice p k c) ∧ w'.cell? ⟨g, 2, none⟩ = some (.slice pc 2 cc) ∧ w'.cell? ⟨g, 3, none⟩ = some (.bool false))
      (first
        | go_keep
        | (go_split_ands
           refine ⟨?_, ?_, ?_, ?_⟩ <;> (rw [hgrow.cell_far _ gs0 (Ne.symm ag)]; assumption)))
      ((refine step_append_lies _ (by rfl) _ _ _ (by rfl) (bb + 1) 87 i0 _ 4 64 Tryz.underlying75 hi hz0 hz1 hz2 rfl (by omega) (.slice (some ⟨gg, 0, none⟩) 1 cg) 1 (xs1) (by rfl) ((HK5.out.own.alloc _).drew)
          ⟨W5.heap.size, 0, none⟩ 1 1 [.int .i64 n1, .slice p k c, .slice pc 2 cc, .bool false] (by rfl) (by rfl) (World.news_of_block (cs := #[.int .i64 n1, .slice p k c, .slice pc 2 cc, .bool false]) (t := 87) (fr := (0, 0)) (heap_alloc_new W5 _)) (by simp [Value.oneCell'])
          (by omega) (by unfold maxLen; omega) (by omega) (by have h5 := hbW.out; simp; omega) (W5.heap.size + 1) (by simp) ?_; intro g6 c6 w9 hown1 hgrow hat hlt; have hc9 : w9.cell? ⟨bb, 0, none⟩ = some (.slice (some ⟨gg, 0, none⟩) 1 cg) := hgrow.cell (cell_al c0 _) aD; have hf9 : w9.frozen? ⟨bb, 0, none⟩ = false := (World.frozen?_of_block (a := ⟨bb, 0, none⟩) (hgrow.block bb bs0 aD)).trans fa))
    all_goals
      obtain ⟨zk, zb⟩ := bk_next (base := bb) (v' := .slice (some ⟨g6, 0, none⟩) 2 c6) HK5.out (Nat.le_refl _) hown1 hgrow
      obtain ⟨W6, hW6⟩ : ∃ W6, w9.setCell ⟨bb, 0, none⟩ (.slice (some ⟨g6, 0, none⟩) 2 c6) = W6 := ⟨_, rfl⟩
      rw [hW6] at zk zb ⊢
      have HB6 : Hid (Below bb W1 W6) := HB5.out.trans zb
      obtain ⟨b1, d0, -, -, b2⟩ := HZ.out _ HB6.out
      obtain ⟨r0, r1, r2, r3⟩ := HR0.out _ b2
      have f0 := r3 0
      have f1 := r3 1
      have f2 := r3 2
      have k0 := zk.c0
      have k1 := zk.c1
      have k2 := zk.c2
      have hne1 : W.heap.size ≠ bb := by have := HSW.out; omega
      have HK6 := Lib.hid zk
      have HBW := Lib.hid b1
      rename_i hh
      clear hh hW6 zk zb hown1 hgrow hat hlt hc9 hf9 cx fx aD ag bs0 gs0 fa gb1 gb2 q0 q1 q2 q3 c0 hi hz0 hz1 hz2 HG2 HB5 HK5 hbW HSZ4 hgne b1 b2 r3
      go_wp2_with fail
      rw [rounds_succ]
      go_wp2_with fail

      refine bodyPost_ret (v := .agg #[.slice (some ⟨g6, 0, none⟩) 2 c6, .slice none 0 0, .slice none 0 0]) (by simp [results, Tryz.results108, go_sem, r0, r1, r2]) rfl ?_
      have own := HK6.out.own
      have lt6 := (own.lt g6 (by simp [Value.ownBlock]))
      have l1 := HSW.out
      obtain ⟨g', cap', e', -, hl, hcells⟩ := own_at own (by decide) (by rw [hxs1.out]; rfl)
      cases e'
      rw [hxs1.out] at hcells
      have u2 := hcells 2 _ rfl
      have u6 := hcells 6 _ rfl
      have nb : ∀ (o j : Nat), (⟨W.heap.size, o, none⟩ : Addr) ≠ ⟨g6, j, none⟩ := fun o j e => by have := congrArg Addr.block e; simp at this; omega
      exact cop_mk (((HBW.out.setCell (p := ⟨W.heap.size, 0, none⟩) (Nat.le_refl _) _).setCell (p := ⟨W.heap.size, 1, none⟩) (Nat.le_refl _) _).setCell (p := ⟨W.heap.size, 2, none⟩) (Nat.le_refl _) _)
        (by simp only [World.size_setCell]; exact lt6.2)
        ((World.cell?_setCell_other _ _ _ _ (nb _ _)).trans ((World.cell?_setCell_other _ _ _ _ (nb _ _)).trans ((World.cell?_setCell_other _ _ _ _ (nb _ _)).trans u2)))
        ((World.cell?_setCell_other _ _ _ _ (nb _ _)).trans ((World.cell?_setCell_other _ _ _ _ (nb _ _)).trans ((World.cell?_setCell_other _ _ _ _ (nb _ _)).trans u6)))
end Go.Proofs.YtmfhpddeclggfaaGreatDoor
namespace Go.Proofs.YtmfhpddeclggfaaGreatDoor
open Go.RowKit
def sanT1 : ByteArray := bs (lineT 1 [⟨#[111, 97, 107]⟩, ⟨#[55]⟩])
def sanT2 : ByteArray := bs (lineT 2 [])
theorem scL_one : scL sanT = [⟨1, sanT1, true⟩, ⟨2, sanT2, true⟩] := by kernel_rfl
theorem scL_two : scL (sanT.extract 1 sanT.size) = [⟨2, sanT2, true⟩] := by kernel_rfl
theorem sanT_size : sanT.size = 26 := by decide +kernel
theorem sanT1_size : sanT1.size ≤ 1000000 := by decide +kernel
theorem sanT2_size : sanT2.size ≤ 1000000 := by decide +kernel
/-- The shelf of the two copies that are tried. -/
theorem shelf_san (W : World) (p : Option Addr) (cap : Nat) (he : Env W) (hs : StrsAt W p [sanT, sanT.extract 1 sanT.size]) :
    Calls Tryz.prog 107 #[.slice p 2 cap] W fun e w' => e = .returned (.tuple #[.slice (some ⟨W.heap.size, 0, none⟩) 2 2, .int .i64 0]) ∧ Below W.heap.size W w' ∧
      ∃ p0 c0 p1 c1, w'.cell? ⟨W.heap.size, 0, none⟩ = some (.slice p0 2 c0) ∧ w'.cell? ⟨W.heap.size, 1, none⟩ = some (.slice p1 1 c1) ∧ ScAt (W.heap.size + 1) w' p0 [⟨1, sanT1, true⟩, ⟨2, sanT2, true⟩] ∧ ScAt (W.heap.size + 1) w' p1 [⟨2, sanT2, true⟩] := by
  have hz : ∀ j, (([sanT, sanT.extract 1 sanT.size] : List ByteArray).getD j ByteArray.empty).size ≤ 262144 := fun j => match j with
    | 0 => by show sanT.size ≤ _; rw [sanT_size]; decide
    | 1 => by show (sanT.extract 1 sanT.size).size ≤ _; rw [ByteArray.size_extract, sanT_size]; decide
    | j + 2 => by show ByteArray.empty.size ≤ _; decide
  refine (allScraps0 p cap [sanT, sanT.extract 1 sanT.size] W (by simp) hz hs he).mono ?_
  rintro e w' ⟨rfl, h⟩
  obtain ⟨p0, c0, a0, b0⟩ := h.new 0 (by simp)
  obtain ⟨p1, c1, a1, b1⟩ := h.new 1 (by simp)
  rw [show ([sanT, sanT.extract 1 sanT.size] : List ByteArray).getD 0 ByteArray.empty = sanT from rfl, scL_one] at a0 b0
  rw [show ([sanT, sanT.extract 1 sanT.size] : List ByteArray).getD 1 ByteArray.empty = sanT.extract 1 sanT.size from rfl, scL_two] at a1 b1
  exact ⟨rfl, h.bel, p0, c0, p1, c1, a0, a1, b0, b1⟩
theorem bookP_mk {W w' : World} {b c k1 k2 : Nat} {q1 q2 : Option Addr} (h : Below W.heap.size W w') (hl : b < w'.heap.size) (h2 : w'.cell? ⟨b, 2, none⟩ = some (.slice q1 1 k1)) (h6 : w'.cell? ⟨b, 6, none⟩ = some (.slice q2 2 k2)) :
    BookP W (.returned (.tuple #[.agg #[.slice (some ⟨b, 0, none⟩) 2 c, .slice none 0 0, .slice none 0 0], .int .i64 0])) w' := by
  refine ⟨h, b, 0, c, 0, 0, k1, k2, none, none, q1, q2, rfl, hl, ?_, ?_⟩
  · rw [Nat.zero_add]; exact h2
  · rw [Nat.zero_add]; exact h6
set_option maxRecDepth 100000 in
set_option maxHeartbeats 1000000 in
theorem collate_book (W : World) (p : Option Addr) (cap : Nat) (he : Env W) (hs : StrsAt W p [sanT, sanT.extract 1 sanT.size]) : Calls Tryz.prog 53 #[.slice p 2 cap] W (BookP W) := by
  have SH := Lib.hid (shelf_san (W.alloc (.cells #[.slice none 0 0, .slice none 0 0, .slice none 0 0] 78)) p cap (he.next (below_alloc1 _ _)) (hs.below (below_alloc1 _ _)))
  have HE := Lib.hid he
  have hr0 : ∀ V, Below (W.alloc (.cells #[.slice none 0 0, .slice none 0 0, .slice none 0 0] 78)).heap.size (W.alloc (.cells #[.slice none 0 0, .slice none 0 0, .slice none 0 0] 78)) V → V.cell? ⟨W.heap.size, 0, none⟩ = some (.slice none 0 0) ∧ V.cell? ⟨W.heap.size, 1, none⟩ = some (.slice none 0 0) ∧ V.cell? ⟨W.heap.size, 2, none⟩ = some (.slice none 0 0) ∧ ∀ o, V.frozen? ⟨W.heap.size, o, none⟩ = false := fun V hb =>
    ⟨(hb.cell (p := ⟨W.heap.size, 0, none⟩) (by simp)).trans (nw_at W _ 78 0 _ rfl), (hb.cell (p := ⟨W.heap.size, 1, none⟩) (by simp)).trans (nw_at W _ 78 1 _ rfl), (hb.cell (p := ⟨W.heap.size, 2, none⟩) (by simp)).trans (nw_at W _ 78 2 _ rfl), fun o => (hb.frozen (p := ⟨W.heap.size, o, none⟩) (by simp)).trans (frozen_new W _ _ o)⟩
  have HR0 := Lib.hid hr0
  clear he hs hr0
  go_enter Tryz.func53, Tryz.ntmps53
  go_wp2_with fail
  refine SH.out.mono ?_
  rintro e W1 ⟨rfl, hb, p0, c0, p1, c1, h0, h1, s0, s1⟩
  have HB := Lib.hid hb
  have hbW : Hid (Below W.heap.size W W1) := (below_alloc1 W _).trans (hb.mono (by simp))
  have CO := Lib.hid (collate_san sanT1 sanT2 (W.alloc (.cells #[.slice none 0 0, .slice none 0 0, .slice none 0 0] 78)).heap.size p0 p1 c0 c1 _ W1 (HE.out.next hbW.out) sanT1_size sanT2_size h0 h1 s0 s1)
  rw [World.size_alloc] at CO
  clear SH hb h0 h1 s0 s1
  go_wp2_with fail
  refine CO.out.mono ?_
  rintro e W2 ⟨hb2, b, c, k1, k2, q1, q2, rfl, hbl, u2, u6⟩
  obtain ⟨r0, r1, r2, r3⟩ := HR0.out _ (HB.out.trans (hb2.mono HB.out.size))
  have f0 := r3 0
  have f1 := r3 1
  have f2 := r3 2
  have hbW2 : Hid (Below W.heap.size W W2) := hbW.out.trans (hb2.mono hbW.out.size)
  have hl1 : W.heap.size + 1 ≤ W1.heap.size := by have := HB.out.size; simpa using this
  have U2 := Lib.hid u2
  have U6 := Lib.hid u6
  have HBL := Lib.hid hbl
  clear CO hb2 u2 u6 hbl r3
  go_wp2_with fail
  refine bodyPost_ret (v := .tuple #[.agg #[.slice (some ⟨b, 0, none⟩) 2 c, .slice none 0 0, .slice none 0 0], .int .i64 0]) (by simp [results, Tryz.results53, go_sem, r0, r1, r2]) rfl ?_
  have nb0 : W.heap.size ≠ b := fun e => by
    have := U2.out
    rw [← e, r2] at this
    simp at this
  have nb : ∀ (o j : Nat), (⟨W.heap.size, o, none⟩ : Addr) ≠ ⟨b, j, none⟩ := fun o j e => nb0 (by have := congrArg Addr.block e; simpa using this)
  exact bookP_mk (((hbW2.out.setCell (p := ⟨W.heap.size, 0, none⟩) (Nat.le_refl _) _).setCell (p := ⟨W.heap.size, 1, none⟩) (Nat.le_refl _) _).setCell (p := ⟨W.heap.size, 2, none⟩) (Nat.le_refl _) _)
    (by simp only [World.size_setCell]; exact HBL.out)
    ((World.cell?_setCell_other _ _ _ _ (nb _ _)).trans ((World.cell?_setCell_other _ _ _ _ (nb _ _)).trans ((World.cell?_setCell_other _ _ _ _ (nb _ _)).trans U2.out)))
    ((World.cell?_setCell_other _ _ _ _ (nb _ _)).trans ((World.cell?_setCell_other _ _ _ _ (nb _ _)).trans ((World.cell?_setCell_other _ _ _ _ (nb _ _)).trans U6.out)))
theorem sanity_any (w : World) (he : Env w) : Calls Tryz.prog 19 #[] w fun e w' => e = .returned (.bool true) ∧ Below w.heap.size w w' :=
  sanity_of w he (Lib.hid fun W p cap h1 h2 => collate_book W p cap h1 h2)
end Go.Proofs.YtmfhpddeclggfaaGreatDoor
