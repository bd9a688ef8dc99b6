import Derived.Test.YtmfhpddeclggfaaGreatDoorSheet
import Derived.WalkKit
import Derived.LoopTactic
import Derived.WalkSpells
import Derived.WalkLawsBesides
import Derived.Lib.Hide
import Derived.BigQuiet
import Derived.IntWalk
import Derived.Deep.DeepMust
import Derived.WalkSmall
import Derived.StillTailTactics
import Derived.Lib.SlBytesConst
import Derived.Deep.RegionLaw
import Derived.Deep.QuietTactic
namespace Go.Proofs.YtmfhpddeclggfaaGreatDoor
open Go.RowKit
/-- The last byte of a column that is no mark for a byte that could not be read. -/
def lastB (col : List UInt8) : UInt8 := col.foldl (fun m c => if c = 63 then m else c) 63
theorem lastB_snoc (l : List UInt8) (c : UInt8) : lastB (l ++ [c]) = if c = 63 then lastB l else c := by simp [lastB]
/-- Whether a column shows one byte. -/
def oneB (col : List UInt8) : Bool := decide (lastB col = 63) || decide (col.count (lastB col) + col.count 63 = col.length)
/-- A tally: what each byte counts, in the block T. -/
structure TY (w W : World) (T : Nat) (f : UInt8 → Nat) : Prop where
  bel : Below T w W
  size : W.heap.size = w.heap.size
  fr : ∀ a : Addr, W.frozen? a = w.frozen? a
  far : ∀ a : Addr, a.block ≠ T → W.cell? a = w.cell? a
  nofr : ∀ o, w.frozen? ⟨T, o, none⟩ = false
  cell : ∀ v : UInt8, W.cell? ⟨T, v.toNat, none⟩ = some (.int .i64 (f v))
theorem TY.drew {w W : World} {T : Nat} {f : UInt8 → Nat} (h : TY w W T f) : TY w W.drew T f :=
  ⟨h.bel.drew, h.size, h.fr, h.far, h.nofr, h.cell⟩
theorem TY.drewN {w W : World} {T : Nat} {f : UInt8 → Nat} (h : TY w W T f) (n : Nat) : TY w (W.drewN n) T f := by
  refine ⟨?_, ?_, ?_, ?_, h.nofr, ?_⟩
  · exact below_drewN h.bel n
  · exact h.size
  · exact h.fr
  · exact h.far
  · exact h.cell
theorem TY.set {w W : World} {T : Nat} {f : UInt8 → Nat} (h : TY w W T f) (c : UInt8) (n : Nat) : TY w (W.setCell ⟨T, c.toNat, none⟩ (.int .i64 n)) T (fun v => if v = c then n else f v) := by
  refine ⟨h.bel.setCell (p := ⟨T, c.toNat, none⟩) (Nat.le_refl _) _, by simpa using h.size, fun a => by rw [World.frozen?_setCell]; exact h.fr a, fun a ha => ?_, h.nofr, fun v => ?_⟩
  · rw [World.cell?_setCell_other _ _ _ _ (fun e => ha (congrArg Addr.block e).symm)]; exact h.far a ha
  · by_cases e : v = c
    · subst e
      simp only [if_true]
      exact World.cell?_setCell_same _ _ _ (h.cell v)
    · simp only [if_neg e]
      rw [World.cell?_setCell_other _ _ _ _ (addr_ne (fun e2 => e (UInt8.toNat_inj.1 e2.symm)))]
      exact h.cell v
theorem TY.congr {w W : World} {T : Nat} {f g : UInt8 → Nat} (h : TY w W T f) (e : ∀ v, f v = g v) : TY w W T g :=
  ⟨h.bel, h.size, h.fr, h.far, h.nofr, fun v => by rw [← e v]; exact h.cell v⟩
def colOf (ts : List ByteArray) (k : Nat) : List UInt8 := ts.map fun s => s.data.toList.getD k 0
theorem colOf_len (ts : List ByteArray) (k : Nat) : (colOf ts k).length = ts.length := by simp [colOf]
theorem col_snoc (ts : List ByteArray) (k j : Nat) (c : UInt8) (h : j < ts.length) (hc : (ts.getD j ByteArray.empty).data.toList.getD k 0 = c) : (colOf ts k).take (j + 1) = (colOf ts k).take j ++ [c] := by
  rw [List.take_succ_eq_append_getElem (by rw [colOf_len]; exact h)]
  congr 2
  rw [show ts.getD j ByteArray.empty = ts[j] from by rw [List.getD, List.getElem?_eq_getElem h]; rfl] at hc
  simp only [colOf, List.getElem_map]
  exact hc
set_option maxRecDepth 100000 in
set_option maxHeartbeats 1000000 in
theorem shown_any (T k : Nat) (p : Option Addr) (cap : Nat) (ts : List ByteArray) (w : World) (hts : ts.length ≤ 1000000) (hk : ∀ j, j < ts.length → k < (ts.getD j ByteArray.empty).size ∧ (ts.getD j ByteArray.empty).size ≤ 1000000)
    (hp : StrsAt w p ts) (hpT : ∀ a, p = some a → a.block ≠ T) (h0 : TY w w T fun _ => 0) :
    Calls Tryz.prog 106 #[.pointer (some ⟨T, 0, none⟩), .slice p ts.length cap, .int .i64 k] w fun e w' => e = .returned (.tuple #[.int .u8 (lastB (colOf ts k)).toNat, .bool (oneB (colOf ts k))]) ∧ TY w w' T fun _ => 0 := by
  have HP := Lib.hid hp
  have HPT := Lib.hid hpT
  have HK := Lib.hid hk
  have H0 := Lib.hid h0
  clear hp hpT hk h0
  go_enter Tryz.func106, Tryz.ntmps106
  go_wp2_with fail
  go_loopw [8, 16] (fun m i wr => ∃ j : Nat, j ≤ ts.length ∧ i = .int .i64 j ∧ m = .int .u8 (lastB ((colOf ts k).take j)).toNat ∧ Hid (TY w wr T fun v => ((colOf ts k).take j).count v)) (fun _ i _ => ts.length - (intOf i).toNat)
  case atStart => exact ⟨0, Nat.zero_le _, rfl, rfl, by simpa [Hid] using H0.out⟩
  case round =>
    obtain ⟨j, hj, rfl, rfl, S⟩ := hrel
    by_cases hlt : j < ts.length
    · obtain ⟨b, o, s, rfl, hc0, hs⟩ : ∃ b o s, p = some ⟨b, o, none⟩ ∧ wr.cell? ⟨b, o + j, none⟩ = some (.string s) ∧ Hid (ts.getD j ByteArray.empty = s) := by
        rcases HP.out with h | ⟨b, o, e1, e2, e3⟩
        · rw [h] at hlt; exact absurd hlt (by simp)
        · exact ⟨b, o, _, e1, by rw [S.out.far ⟨b, o + j, none⟩ (by have h := HPT.out _ e1; exact h)]; exact e3 j hlt, rfl⟩
      have hks := (HK.out j hlt).1
      rw [hs.out] at hks
      obtain ⟨c, hc⟩ : ∃ c, s[k] = c := ⟨_, rfl⟩
      have hcell := S.out.cell c
      obtain ⟨n, hn⟩ : ∃ n, n = ((colOf ts k).take j).count c := ⟨_, rfl⟩
      rw [← hn] at hcell
      have hfr : wr.frozen? ⟨T, c.toNat, none⟩ = false := by rw [S.out.fr]; exact S.out.nofr _
      have hnb : n ≤ 1000000 := by
        rw [hn]
        refine Nat.le_trans List.count_le_length ?_
        rw [List.length_take]; omega
      have hcl := c.toNat_lt
      have HN := Lib.hid hn
      clear hn
      go_wp2_with fail
      go_region
      have S1 : Hid (TY w (wr.setCell ⟨T, c.toNat, none⟩ (.int .i64 ((n : Int) + 1))).drew T fun v => ((colOf ts k).take (j + 1)).count v) := by
        have h := ((S.out.set c (n + 1)).drew).congr (g := fun v => ((colOf ts k).take (j + 1)).count v) fun v => by
          rw [col_snoc ts k j c hlt (by rw [hs.out, List.getD, List.getElem?_eq_getElem (by simpa using hks)]; exact hc), List.count_append, List.count_singleton]
          by_cases e : v = c
          · subst e; simp [HN.out]
          · have e2 : ¬ c = v := fun h => e h.symm
            simp [e, e2]
        exact h
      have hL := lastB_snoc ((colOf ts k).take j) c
      rw [← col_snoc ts k j c hlt (by rw [hs.out, List.getD, List.getElem?_eq_getElem (by simpa using hks)]; exact hc)] at hL
      have HL := Lib.hid hL
      clear hL hcell hfr S H0 hc0
      by_cases h63 : c = 63
      · have t63 : ((c.toNat : Int) == 63) = true := by rw [h63]; rfl
        have t63' : (c.toNat : Int) = 63 := by rw [h63]; rfl
        go_wp2_with fail
        refine ⟨⟨j + 1, by omega, by go_num, by rw [HL.out, if_pos h63], by have h := S1; rw [show c.toNat = 63 from by rw [h63]; rfl] at h; exact h⟩, by simp [intOf]; omega⟩
      · have t63' : ¬ (c.toNat : Int) = 63 := fun h => h63 (UInt8.toNat_inj.1 (by have : (63 : UInt8).toNat = 63 := rfl; omega))
        go_wp2_with fail
        refine ⟨⟨j + 1, by omega, by go_num, by rw [HL.out, if_neg h63], S1⟩, by simp [intOf]; omega⟩
    · obtain rfl : j = ts.length := by omega
      rw [show (colOf ts k).take ts.length = colOf ts k from List.take_of_length_le (Nat.le_of_eq (colOf_len ts k))] at S ⊢
      obtain ⟨col, hcol⟩ : ∃ col, colOf ts k = col := ⟨_, rfl⟩
      have HCL : Hid (col.length = ts.length) := by unfold Hid; rw [← hcol]; exact colOf_len ts k
      rw [hcol] at S ⊢
      obtain ⟨mb, hmb⟩ : ∃ mb, lastB col = mb := ⟨_, rfl⟩
      rw [hmb]
      have d1 : wr.cell? ⟨T, mb.toNat, none⟩ = some (.int .i64 (col.count mb)) := S.out.cell mb
      have d2 : wr.cell? ⟨T, 63, none⟩ = some (.int .i64 (col.count 63)) := S.out.cell 63
      obtain ⟨n1, hn1⟩ : ∃ n1, n1 = col.count mb := ⟨_, rfl⟩
      obtain ⟨n2, hn2⟩ : ∃ n2, n2 = col.count 63 := ⟨_, rfl⟩
      have hb1 : n1 ≤ 1000000 := by have := HCL.out; rw [hn1]; exact Nat.le_trans List.count_le_length (by omega)
      have hb2 : n2 ≤ 1000000 := by have := HCL.out; rw [hn2]; exact Nat.le_trans List.count_le_length (by omega)
      rw [← hn1] at d1
      rw [← hn2] at d2
      have hml := mb.toNat_lt
      have HOK : Hid (oneB (colOf ts k) = (decide (mb = 63) || decide (n1 + n2 = ts.length))) := by unfold Hid; rw [hcol, oneB, hmb, hn1, hn2, HCL.out]
      have HMB : Hid (lastB (colOf ts k) = mb) := by unfold Hid; rw [hcol, hmb]
      have HCOL := Lib.hid hcol
      clear hcol hmb hn1 hn2 H0
      by_cases h63 : mb = 63
      · have HOK2 : Hid (oneB (colOf ts k) = true) := by unfold Hid; rw [HOK.out]; simp [h63]
        have t63 : ((mb.toNat : Int) == 63) = true := by rw [h63]; rfl
        clear HOK
        go_wp2_with fail
        go_quiet (fail)
        have S1 : Hid (TY w (wr.drewN nq) T fun v => if v ∈ col.take 0 then 0 else col.count v) := by
          have h := S.out.drewN nq
          exact h.congr fun v => by simp
        clear S d1 d2 h63 t63
        go_wp2_with fail
        go_loopw [57] (fun i wr2 => ∃ j : Nat, j ≤ ts.length ∧ i = .int .i64 j ∧ Hid (TY w wr2 T fun v => if v ∈ col.take j then 0 else col.count v)) (fun i _ => ts.length - (intOf i).toNat)
        case atStart => exact ⟨0, Nat.zero_le _, rfl, S1⟩
        case round =>
          clear S1
          rename World => wz
          obtain ⟨j, hj, rfl, S⟩ := hrel
          by_cases hlt : j < ts.length
          · obtain ⟨b, o, s, rfl, hc0, hs⟩ : ∃ b o s, p = some ⟨b, o, none⟩ ∧ wz.cell? ⟨b, o + j, none⟩ = some (.string s) ∧ Hid (ts.getD j ByteArray.empty = s) := by
              rcases HP.out with h | ⟨b, o, e1, e2, e3⟩
              · rw [h] at hlt; exact absurd hlt (by simp)
              · exact ⟨b, o, _, e1, by rw [S.out.far ⟨b, o + j, none⟩ (by have h := HPT.out _ e1; exact h)]; exact e3 j hlt, rfl⟩
            have hks := (HK.out j hlt).1
            rw [hs.out] at hks
            obtain ⟨c, hc⟩ : ∃ c, s[k] = c := ⟨_, rfl⟩
            have hcell := S.out.cell c
            obtain ⟨n, hn⟩ : ∃ n : Nat, n = (if c ∈ col.take j then 0 else col.count c) := ⟨_, rfl⟩
            rw [← hn] at hcell
            have hfr : wz.frozen? ⟨T, c.toNat, none⟩ = false := by rw [S.out.fr]; exact S.out.nofr _
            have hcl := c.toNat_lt
            clear hn
            have S2 : Hid (TY w (wz.setCell ⟨T, c.toNat, none⟩ (.int .i64 0)).drew T fun v => if v ∈ col.take (j + 1) then 0 else col.count v) := by
              have h := ((S.out.set c 0).drew).congr (g := fun v => if v ∈ col.take (j + 1) then 0 else col.count v) fun v => by
                rw [← HCOL.out, col_snoc ts k j c hlt (by rw [hs.out, List.getD, List.getElem?_eq_getElem (by simpa using hks)]; exact hc)]
                by_cases e : v = c
                · subst e; simp
                · simp [e]
              exact h
            go_wp2_with fail
            go_region
            go_wp2_with fail
            exact ⟨⟨j + 1, by omega, by go_num, S2⟩, by simp [intOf]; omega⟩
          · obtain rfl : j = ts.length := by omega
            have S2 : Hid (TY w wz T fun _ => 0) := by
              rw [show col.take ts.length = col from List.take_of_length_le (Nat.le_of_eq HCL.out)] at S
              exact S.out.congr fun v => by
                by_cases h : v ∈ col
                · simp [h]
                · simp [h, List.count_eq_zero]
            clear S
            go_wp2_with fail
            go_ret2
            exact ⟨by rw [HMB.out, HOK2.out]; rfl, S2.out⟩
      · have t63 : ((mb.toNat : Int) == 63) = false := by
          rw [beq_eq_false_iff_ne]
          exact fun h => h63 (UInt8.toNat_inj.1 (by have : (63 : UInt8).toNat = 63 := rfl; omega))
        have HOK2 : Hid (oneB (colOf ts k) = ((n1 : Int) + n2 == (ts.length : Int))) := by
          unfold Hid; rw [HOK.out]; simp only [h63, decide_false, Bool.false_or]
          by_cases e : n1 + n2 = ts.length
          · rw [decide_eq_true e]; exact (beq_iff_eq.2 (by omega)).symm
          · rw [decide_eq_false e]; exact (beq_eq_false_iff_ne.2 (by omega)).symm
        clear HOK h63
        go_wp2_with fail
        go_quiet (fail)
        have S1 : Hid (TY w (wr.drewN nq) T fun v => if v ∈ col.take 0 then 0 else col.count v) := by
          have h := S.out.drewN nq
          exact h.congr fun v => by simp
        clear S d1 d2 t63
        go_wp2_with fail
        go_loopw [57] (fun i wr2 => ∃ j : Nat, j ≤ ts.length ∧ i = .int .i64 j ∧ Hid (TY w wr2 T fun v => if v ∈ col.take j then 0 else col.count v)) (fun i _ => ts.length - (intOf i).toNat)
        case atStart => exact ⟨0, Nat.zero_le _, rfl, S1⟩
        case round =>
          clear S1
          rename World => wz
          obtain ⟨j, hj, rfl, S⟩ := hrel
          by_cases hlt : j < ts.length
          · obtain ⟨b, o, s, rfl, hc0, hs⟩ : ∃ b o s, p = some ⟨b, o, none⟩ ∧ wz.cell? ⟨b, o + j, none⟩ = some (.string s) ∧ Hid (ts.getD j ByteArray.empty = s) := by
              rcases HP.out with h | ⟨b, o, e1, e2, e3⟩
              · rw [h] at hlt; exact absurd hlt (by simp)
              · exact ⟨b, o, _, e1, by rw [S.out.far ⟨b, o + j, none⟩ (by have h := HPT.out _ e1; exact h)]; exact e3 j hlt, rfl⟩
            have hks := (HK.out j hlt).1
            rw [hs.out] at hks
            obtain ⟨c, hc⟩ : ∃ c, s[k] = c := ⟨_, rfl⟩
            have hcell := S.out.cell c
            obtain ⟨n, hn⟩ : ∃ n : Nat, n = (if c ∈ col.take j then 0 else col.count c) := ⟨_, rfl⟩
            rw [← hn] at hcell
            have hfr : wz.frozen? ⟨T, c.toNat, none⟩ = false := by rw [S.out.fr]; exact S.out.nofr _
            have hcl := c.toNat_lt
            clear hn
            have S2 : Hid (TY w (wz.setCell ⟨T, c.toNat, none⟩ (.int .i64 0)).drew T fun v => if v ∈ col.take (j + 1) then 0 else col.count v) := by
              have h := ((S.out.set c 0).drew).congr (g := fun v => if v ∈ col.take (j + 1) then 0 else col.count v) fun v => by
                rw [← HCOL.out, col_snoc ts k j c hlt (by rw [hs.out, List.getD, List.getElem?_eq_getElem (by simpa using hks)]; exact hc)]
                by_cases e : v = c
                · subst e; simp
                · simp [e]
              exact h
            go_wp2_with fail
            go_region
            go_wp2_with fail
            exact ⟨⟨j + 1, by omega, by go_num, S2⟩, by simp [intOf]; omega⟩
          · obtain rfl : j = ts.length := by omega
            have S2 : Hid (TY w wz T fun _ => 0) := by
              rw [show col.take ts.length = col from List.take_of_length_le (Nat.le_of_eq HCL.out)] at S
              exact S.out.congr fun v => by
                by_cases h : v ∈ col
                · simp [h]
                · simp [h, List.count_eq_zero]
            clear S
            go_wp2_with fail
            go_ret2
            exact ⟨by rw [HMB.out, HOK2.out]; rfl, S2.out⟩
end Go.Proofs.YtmfhpddeclggfaaGreatDoor
