import Derived.Test.YtmfhpddeclggfaaGreatDoorKa
import Derived.WalkKit
import Derived.LoopTactic
import Derived.WalkSpells
import Derived.WalkLawsBesides
import Derived.Lib.Hide
import Derived.BigQuiet
import Derived.IntWalk
import Derived.Deep.DeepMust
import Derived.WalkSmall
import Derived.StillTailTactics
import Derived.Lib.SlBytesConst
import Derived.Deep.RegionLaw
import Derived.Deep.QuietTactic
namespace Go.Proofs.YtmfhpddeclggfaaGreatDoor
open Go.RowKit
/-- The bytes that j pairs of digits are. -/
def pfold (r : List UInt8) : Nat → Option (List UInt8)
  | 0 => some []
  | j + 1 => match pfold r j with
    | none => none
    | some b => if dgI (r.getD (2 * j) 0) < 0 ∨ dgI (r.getD (2 * j + 1) 0) < 0 then none
      else some (b ++ [UInt8.ofNat (16 * (dgI (r.getD (2 * j) 0)).toNat + (dgI (r.getD (2 * j + 1) 0)).toNat)])
theorem pfold_mono (r : List UInt8) (k n : Nat) (h : pfold r k = none) (hn : k ≤ n) : pfold r n = none := by
  induction n with
  | zero => rw [show (0 : Nat) = k by omega]; exact h
  | succ n ih =>
    by_cases e : k = n + 1
    · rw [← e]; exact h
    · rw [pfold, ih (by omega)]
def rdText (l : List UInt8) : Option (List UInt8) :=
  match l with
  | [] => none
  | c :: r => if c = 61 ∧ r.length % 2 = 0 ∧ r.length ≤ 100 then pfold r (r.length / 2) else none
def rtRes (o : Option (List UInt8)) : Value := match o with
  | some l => .tuple #[.string (bs l), .int .i64 0]
  | none => .tuple #[.string ⟨#[]⟩, .int .i64 7]
theorem iby (c : UInt8) (w : World) : Calls Tryz.prog 80 #[.string ⟨#[48, 49, 50, 51, 52, 53, 54, 55, 56, 57, 97, 98, 99, 100, 101, 102]⟩, .int .u8 (c.toNat : Int)] w fun e w' => e = .returned (.int .i64 (dgI c)) ∧ w = w' :=
  (Tryz.strings_IndexByte _ _ w).mono fun e w' ⟨h1, h2⟩ => ⟨by rw [h1]; simp [dgI, hexs], h2.symm⟩
theorem pair_fin : ∀ a : Fin 16, ∀ b : Fin 16, bits .or .i64 (wrap64 (((a.val : Nat) : Int) * 16)) ((b.val : Nat) : Int) % 256 = ((UInt8.ofNat (16 * a.val + b.val)).toNat : Int) := by decide +kernel
theorem pair_val (a b : UInt8) (ha : 0 ≤ dgI a) (hb : 0 ≤ dgI b) : bits .or .i64 (wrap64 (dgI a * 16)) (dgI b) % 256 = ((UInt8.ofNat (16 * (dgI a).toNat + (dgI b).toNat)).toNat : Int) := by
  rcases dgI_cases a with h | ⟨_, h1, _⟩
  · omega
  rcases dgI_cases b with h | ⟨_, h2, _⟩
  · omega
  have := pair_fin ⟨(dgI a).toNat, by omega⟩ ⟨(dgI b).toNat, by omega⟩
  simp only [Int.toNat_of_nonneg ha, Int.toNat_of_nonneg hb] at this
  exact this
set_option maxRecDepth 100000 in
set_option maxHeartbeats 1000000 in
theorem sReadText (r : List UInt8) (w : World) (he : r.length % 2 = 0) (hl : r.length ≤ 100) :
    Calls Tryz.prog 24 #[.string (bs (61 :: r))] w fun e w' => e = .returned (rtRes (pfold r (r.length / 2))) ∧ Below w.heap.size w w' := by
  have t1 : Lib.trimPrefix (bs (61 :: r)).data.toList (ByteArray.mk #[61]).data.toList = r := by simp [bs, Lib.trimPrefix, Lib.hasPrefix]
  have t2 : Lib.hasPrefix (bs (61 :: r)).data.toList (ByteArray.mk #[61]).data.toList = true := by simp [bs, Lib.hasPrefix]
  have T1 := Lib.hid t1
  have T2 := Lib.hid t2
  clear t1 t2
  obtain ⟨i0, hi, hz0, hz1, hz2⟩ := info_parts info5
  have HI := Lib.hid (And.intro hi (And.intro hz0 (And.intro hz1 hz2)))
  clear hi hz0 hz1 hz2
  have hsz : (bs r).size ≤ 100 := hl
  have e2 : ((bs r).size : Int) % 2 = 0 := by rw [bs_size]; omega
  go_enter Tryz.func24, Tryz.ntmps24
  go_wp2_with fail
  have C := Tryz.strings_CutPrefix (bs (61 :: r)) ⟨#[61]⟩ w
  rw [T1.out, T2.out] at C
  refine C.mono ?_
  rintro e w' ⟨rfl, rfl⟩
  clear C
  rw [show (ByteArray.mk r.toArray) = bs r from rfl]
  go_wp2_with fail
  go_loopw [6, 7] (fun v i wr => ∃ (j : Nat) (b : List UInt8), 2 * j ≤ r.length ∧ i = .int .i64 (2 * (j : Int)) ∧ Hid (OwnM wr w'.heap.size 5 v b.length (Lib.byteCells b)) ∧ Hid (pfold r j = some b ∧ b.length = j) ∧ Hid (Below w'.heap.size w' wr)) (fun _ i _ => r.length - (intOf i).toNat)
  case atStart => exact ⟨0, [], Nat.zero_le _, rfl, OwnM.own (World.ownsRow_nil _ _ _ _), ⟨rfl, rfl⟩, Below.refl _ _⟩
  case round =>
    obtain ⟨j, b, hj, rfl, ho, hp, hb⟩ := hrel
    have hrs : ((bs r).size : Int) = r.length := by rw [bs_size]
    by_cases hlt : 2 * j < r.length
    · have g1 : 2 * j < (bs r).size := by rw [bs_size]; omega
      have g2 : 2 * j + 1 < (bs r).size := by rw [bs_size]; omega
      have A1 := Lib.hid (show (bs r)[2 * j] = r.getD (2 * j) 0 from by rw [List.getD, List.getElem?_eq_getElem (by omega)]; rfl)
      have A2 := Lib.hid (show (bs r)[2 * j + 1] = r.getD (2 * j + 1) 0 from by rw [List.getD, List.getElem?_eq_getElem (by omega)]; rfl)
      clear hrs
      have hbl : b.length ≤ 100 := by have := hp.out.2; omega
      go_wp2_with (first | (go_at_call 80; refine (iby _ _).mono ?_; rintro e w3 ⟨rfl, rfl⟩) | (at_builtin; refine wpList_append_ownM rfl (.tmp 49) (.tmp 55) 106 rfl w'.heap.size 5 i0 (.int .u8 0) 1 Tryz.underlying106 HI.out.1 HI.out.2.1 HI.out.2.2.1 HI.out.2.2.2 rfl u6 b.length _ rfl (ho.out.alloc _) ⟨wr.heap.size, 0, none⟩ 1 1 _ rfl rfl (by decide) (cells_new _ _ _) (by simp [Value.oneCell']) (by unfold maxLen; omega) (by omega) (by have := hb.out.size; simp; omega) ?_; intro v' w1 h1 h2 h3; have H1 := Lib.hid h1; have H3 := Lib.hid h3; clear h1 h2 h3))
      · go_ret2
        have h : dgI (bs r)[2 * j] < 0 ∨ dgI (bs r)[2 * j + 1] < 0 := by assumption
        refine ⟨?_, hb.out⟩
        rw [A1.out, A2.out] at h
        have hn : pfold r (j + 1) = none := by rw [pfold, hp.out.1]; simp only; rw [if_pos h]
        rw [pfold_mono r (j + 1) (r.length / 2) hn (by omega)]; rfl
      · go_roundw
        case rel =>
          have h := (‹0 ≤ dgI (bs r)[2 * j] ∧ 0 ≤ dgI (bs r)[2 * j + 1]› : 0 ≤ dgI (bs r)[2 * j] ∧ 0 ≤ dgI (bs r)[2 * j + 1])
          have hv := pair_val (bs r)[2 * j] (bs r)[2 * j + 1] h.1 h.2
          have h1 := H1.out
          rw [hv] at h1
          refine ⟨_, _, v', .int .i64 (2 * (j : Int) + 2), ⟨j + 1, by omega, by go_num, b ++ [UInt8.ofNat (16 * (dgI (bs r)[2 * j]).toNat + (dgI (bs r)[2 * j + 1]).toNat)], OwnM.own ?_, ⟨?_, by simp; exact hp.out.2⟩, (hb.out.trans ((below_alloc1 _ _).mono hb.out.size)).trans H3.out⟩, rfl, rfl, rfl, rfl⟩
          · rw [List.length_append, Lib.byteCells_append]; exact h1
          · rw [A1.out, A2.out] at h ⊢
            rw [pfold, hp.out.1]
            simp only
            rw [if_neg (by omega)]
        case measure => simp [intOf]; omega
      · go_ret2
        have h : dgI (bs r)[2 * j] < 0 := by assumption
        refine ⟨?_, hb.out⟩
        rw [A1.out] at h
        have hn : pfold r (j + 1) = none := by rw [pfold, hp.out.1]; simp only; rw [if_pos (Or.inl h)]
        rw [pfold_mono r (j + 1) (r.length / 2) hn (by omega)]; rfl
    · have hc := ho.out.str (P := Tryz.prog) 106 9 Tryz.underlying106 Tryz.underlying5 Tryz.underlying9
      have hj2 : j = r.length / 2 := by omega
      have HJ := Lib.hid hj2
      clear hj2
      go_wp2
      go_ret2
      refine ⟨?_, hb.out⟩
      rw [← HJ.out, hp.out.1]; rfl
set_option maxRecDepth 100000 in
set_option maxHeartbeats 1000000 in
theorem sReadText_no (s : ByteArray) (w : World) (hs : s.size ≤ 100000) (hb : ¬ (s.data.toList.head? = some 61 ∧ (s.size - 1) % 2 = 0 ∧ s.size ≤ 101)) :
    Calls Tryz.prog 24 #[.string s] w fun e w' => e = .returned (rtRes none) ∧ Below w.heap.size w w' := by

  cases hl : s.data.toList with
  | nil =>
    have t2 : Lib.hasPrefix s.data.toList (ByteArray.mk #[61]).data.toList = false := by rw [hl]; rfl
    have T2 := Lib.hid t2
    clear t2 hb hl
    go_enter Tryz.func24, Tryz.ntmps24
    go_wp2_with fail
    have C := Tryz.strings_CutPrefix s ⟨#[61]⟩ w
    rw [T2.out] at C
    refine C.mono ?_
    rintro e w' ⟨rfl, rfl⟩
    clear C
    go_wp2_with fail
    go_ret2
    exact ⟨rfl, Below.refl _ _⟩
  | cons c r =>
    by_cases hc : c = 61
    · subst hc
      have hsz : s.size = r.length + 1 := by have := congrArg List.length hl; simpa using this
      have t1 : Lib.trimPrefix s.data.toList (ByteArray.mk #[61]).data.toList = r := by rw [hl]; simp [Lib.trimPrefix, Lib.hasPrefix]
      have t2 : Lib.hasPrefix s.data.toList (ByteArray.mk #[61]).data.toList = true := by rw [hl]; simp [Lib.hasPrefix]
      rw [hl] at hb
      simp only [List.head?_cons, true_and] at hb
      have hq : ((bs r).size : Int) % 2 ≠ 0 ∨ 100 < ((bs r).size : Int) := by rw [bs_size]; omega
      have hbr : ((bs r).size : Int) ≤ 100000 := by rw [bs_size]; omega
      have T1 := Lib.hid t1
      have T2 := Lib.hid t2
      clear t1 t2 hb hl hsz hs
      by_cases ho : ((bs r).size : Int) % 2 = 0
      · have h100 : 100 < ((bs r).size : Int) := by omega
        clear hq
        go_enter Tryz.func24, Tryz.ntmps24
        go_wp2_with fail
        have C := Tryz.strings_CutPrefix s ⟨#[61]⟩ w
        rw [T1.out, T2.out] at C
        refine C.mono ?_
        rintro e w' ⟨rfl, rfl⟩
        clear C
        rw [show (ByteArray.mk r.toArray) = bs r from rfl]
        go_wp2_with fail
        go_ret2
        exact ⟨rfl, Below.refl _ _⟩
      · have ho' : (((bs r).size : Int) % 2 != 0) = true := by rw [bne_iff_ne]; exact ho
        clear hq ho
        go_enter Tryz.func24, Tryz.ntmps24
        go_wp2_with fail
        have C := Tryz.strings_CutPrefix s ⟨#[61]⟩ w
        rw [T1.out, T2.out] at C
        refine C.mono ?_
        rintro e w' ⟨rfl, rfl⟩
        clear C
        rw [show (ByteArray.mk r.toArray) = bs r from rfl]
        go_wp2_with fail
        go_ret2
        exact ⟨rfl, Below.refl _ _⟩
    · have t2 : Lib.hasPrefix s.data.toList (ByteArray.mk #[61]).data.toList = false := by
        have e61 : ((61 : UInt8) == c) = false := by rw [beq_eq_false_iff_ne]; exact fun e => hc (Eq.symm e)
        rw [hl]; simp [Lib.hasPrefix, List.isPrefixOf, e61]
      have T2 := Lib.hid t2
      clear t2 hb hl hc
      go_enter Tryz.func24, Tryz.ntmps24
      go_wp2_with fail
      have C := Tryz.strings_CutPrefix s ⟨#[61]⟩ w
      rw [T2.out] at C
      refine C.mono ?_
      rintro e w' ⟨rfl, rfl⟩
      clear C
      go_wp2_with fail
      go_ret2
      exact ⟨rfl, Below.refl _ _⟩
/-- sheet.ReadText. -/
theorem sReadTextAll (s : ByteArray) (w : World) (hs : s.size ≤ 100000) :
    Calls Tryz.prog 24 #[.string s] w fun e w' => e = .returned (rtRes (rdText s.data.toList)) ∧ Below w.heap.size w w' := by
  by_cases hb : s.data.toList.head? = some 61 ∧ (s.size - 1) % 2 = 0 ∧ s.size ≤ 101
  · obtain ⟨h1, h2, h3⟩ := hb
    cases hl : s.data.toList with
    | nil => rw [hl] at h1; cases h1
    | cons c r =>
      rw [hl] at h1
      simp only [List.head?_cons, Option.some.injEq] at h1
      subst h1
      have hsz : s.size = r.length + 1 := by have := congrArg List.length hl; simpa using this
      have e : s = bs (61 :: r) := by rw [← hl]; rfl
      rw [e]
      have : rdText (61 :: r) = pfold r (r.length / 2) := by simp only [rdText]; rw [if_pos ⟨trivial, by omega, by omega⟩]
      rw [this]
      exact sReadText r w (by omega) (by omega)
  · have hn : rdText s.data.toList = none := by
      cases hl : s.data.toList with
      | nil => rfl
      | cons c r =>
        have hsz : s.size = r.length + 1 := by have := congrArg List.length hl; simpa using this
        rw [hl] at hb
        simp only [List.head?_cons, Option.some.injEq] at hb
        unfold rdText
        simp only
        rw [if_neg]
        intro h
        exact hb ⟨h.1, by omega, by omega⟩
    rw [hn]
    exact sReadText_no s w hs hb
end Go.Proofs.YtmfhpddeclggfaaGreatDoor
namespace Go.Proofs.YtmfhpddeclggfaaGreatDoor
open Go.RowKit
theorem pair_val2_fin : ∀ a : Fin 16, ∀ b : Fin 16, ((16 * ((a.val : Nat) : Int) + ((b.val : Nat) : Int)) % 256) = ((UInt8.ofNat (16 * a.val + b.val)).toNat : Int) := by decide +kernel
theorem pair_val2 (a b : UInt8) (ha : 0 ≤ dgI a) (hb : 0 ≤ dgI b) : (16 * dgI a + dgI b) % 256 = ((UInt8.ofNat (16 * (dgI a).toNat + (dgI b).toNat)).toNat : Int) := by
  rcases dgI_cases a with h | ⟨_, h1, _⟩
  · omega
  rcases dgI_cases b with h | ⟨_, h2, _⟩
  · omega
  have := pair_val2_fin ⟨(dgI a).toNat, by omega⟩ ⟨(dgI b).toNat, by omega⟩
  simp only [Int.toNat_of_nonneg ha, Int.toNat_of_nonneg hb] at this
  exact this
theorem heap_last (w : World) (o : Obj) : (w.alloc o).heap[w.heap.size]? = some o := by
  show (w.heap.push o)[w.heap.size]? = _
  simp
theorem frozen_new (w : World) (C : Array Value) (e : TypeId) (o : Nat) : (w.alloc (.cells C e)).frozen? ⟨w.heap.size, o, none⟩ = false := by
  have : (w.alloc (.cells C e)).heap[w.heap.size]? = some (.cells C e) := by
    show (w.heap.push (.cells C e))[w.heap.size]? = _
    simp
  unfold World.frozen?
  rw [this]
  simp
theorem getD_cons (r : List UInt8) (c d : UInt8) (k : Nat) : (c :: r).getD (k + 1) d = r.getD k d := by simp [List.getD]
set_option maxRecDepth 100000 in
set_option maxHeartbeats 1000000 in
theorem rReadText (r : List UInt8) (w : World) (he : r.length % 2 = 0) (hl : r.length ≤ 100) :
    Calls Tryz.prog 25 #[.string (bs (61 :: r))] w fun e w' => e = .returned (wdRes (pfold r (r.length / 2)) 7) ∧ Below w.heap.size w w' := by
  obtain ⟨i0, hi, hz0, hz1, hz2⟩ := info_parts info5
  have HI := Lib.hid (And.intro hi (And.intro hz0 (And.intro hz1 hz2)))
  clear hi hz0 hz1 hz2
  have hsz : (bs (61 :: r)).size ≤ 101 := by rw [bs_size]; simp; omega
  have hs1 : 1 ≤ (bs (61 :: r)).size := by rw [bs_size]; simp
  have e2 : (((bs (61 :: r)).size : Int) % 2 != 1) = false := by
    rw [bs_size, List.length_cons]
    have : ((r.length + 1 : Nat) : Int) % 2 = 1 := by omega
    rw [this]; rfl
  have e3 : ((((bs (61 :: r))[0]).toNat : Int) != 61) = false := by rfl
  go_enter Tryz.func25, Tryz.ntmps25
  go_wp2
  go_loopw [3, 4] (fun v i wr => ∃ (j : Nat) (b : List UInt8), 2 * j ≤ r.length ∧ i = .int .i64 (2 * (j : Int) + 1) ∧ Hid (OwnM wr (w.heap.size + 1) 5 v b.length (Lib.byteCells b)) ∧ Hid (pfold r j = some b ∧ b.length = j) ∧ Hid (Below (w.heap.size + 1) (w.alloc (.cells #[.string ⟨#[]⟩, .int .i64 0] 32)) wr)) (fun _ i _ => r.length + 1 - (intOf i).toNat)
  case atStart =>
    refine ⟨0, [], Nat.zero_le _, rfl, Or.inr ⟨w.heap.size + 1, (0, 0), rfl, Nat.le_refl _, ?_, rfl⟩, ⟨rfl, rfl⟩, (Below.refl _ _).alloc (by simp) _⟩
    have := heap_last (w.alloc (.cells #[.string ⟨#[]⟩, .int .i64 0] 32)) (.cells #[] 5)
    rw [World.size_alloc] at this
    exact this
  case round =>
    obtain ⟨j, b, hj, rfl, ho, hp, hb⟩ := hrel
    have hrs : ((bs (61 :: r)).size : Int) = r.length + 1 := by rw [bs_size]; simp
    have hc0 : wr.cell? ⟨w.heap.size, 0, none⟩ = some (.string ⟨#[]⟩) := by
      rw [hb.out.cell (p := ⟨w.heap.size, 0, none⟩) (by show w.heap.size < _; omega)]
      simp
    have hc1 : wr.cell? ⟨w.heap.size, 1, none⟩ = some (.int .i64 0) := by
      rw [hb.out.cell (p := ⟨w.heap.size, 1, none⟩) (by show w.heap.size < _; omega)]
      simp
    have hf : ∀ o, wr.frozen? ⟨w.heap.size, o, none⟩ = false := by
      intro o
      rw [hb.out.frozen (p := ⟨w.heap.size, o, none⟩) (by show w.heap.size < _; omega)]
      exact frozen_new w _ _ o
    have hf0 := hf 0
    have hf1 := hf 1
    clear hf
    have hw : Hid (Below w.heap.size w wr) := ((below_alloc1 _ _).trans (hb.out.mono (Nat.le_succ _)))
    by_cases hlt : 2 * j < r.length
    · have g1 : 2 * j + 1 < (bs (61 :: r)).size := by rw [bs_size, List.length_cons]; omega
      have g2 : 2 * j + 1 + 1 < (bs (61 :: r)).size := by rw [bs_size, List.length_cons]; omega
      have A1 := Lib.hid (show (bs (61 :: r))[2 * j + 1] = r.getD (2 * j) 0 from by rw [List.getD, List.getElem?_eq_getElem (by omega)]; rfl)
      have A2 := Lib.hid (show (bs (61 :: r))[2 * j + 1 + 1] = r.getD (2 * j + 1) 0 from by rw [List.getD, List.getElem?_eq_getElem (by omega)]; rfl)
      have hbl : b.length ≤ 100 := by have := hp.out.2; omega
      have D1 : dgI (bs (61 :: r))[2 * j + 1] < 16 := by rcases dgI_cases (bs (61 :: r))[2 * j + 1] with h | h <;> omega
      have D2 : dgI (bs (61 :: r))[2 * j + 1 + 1] < 16 := by rcases dgI_cases (bs (61 :: r))[2 * j + 1 + 1] with h | h <;> omega
      clear hrs
      go_wp2_with (first | (go_at_call 81; refine (digit_any _ _ rfl _).mono ?_; rintro e w3 ⟨rfl, rfl⟩) | (at_builtin; refine wpList_append_ownM rfl (.tmp 45) (.tmp 51) 106 rfl (w.heap.size + 1) 5 i0 (.int .u8 0) 1 Tryz.underlying106 HI.out.1 HI.out.2.1 HI.out.2.2.1 HI.out.2.2.2 rfl u3 b.length _ rfl (ho.out.alloc _) ⟨_, 0, none⟩ 1 1 _ rfl rfl (by decide) (cells_new _ _ _) (by simp [Value.oneCell']) (by unfold maxLen; omega) (by omega) (by have := hb.out.size; simp at this; simp; omega) ?_; intro v' w1 h1 h2 h3; have H1 := Lib.hid h1; have H3 := Lib.hid h3; clear h1 h2 h3))
      · have h : dgI (bs (61 :: r))[2 * j + 1] < 0 ∨ dgI (bs (61 :: r))[2 * j + 1 + 1] < 0 := by assumption
        refine bodyPost_ret (v := .agg #[.string ⟨#[]⟩, .int .i64 7]) (by simp [results, Tryz.results25, go_sem, hc0, hc1]) rfl ⟨?_, ?_⟩
        · rw [A1.out, A2.out] at h
          have hn : pfold r (j + 1) = none := by rw [pfold, hp.out.1]; simp only; rw [if_pos h]
          rw [pfold_mono r (j + 1) (r.length / 2) hn (by omega)]; rfl
        · exact (hw.out.setCell (p := ⟨w.heap.size, 0, none⟩) (Nat.le_refl _) _).setCell (p := ⟨w.heap.size, 1, none⟩) (Nat.le_refl _) _
      · go_roundw
        case rel =>
          have h := (‹0 ≤ dgI (bs (61 :: r))[2 * j + 1] ∧ 0 ≤ dgI (bs (61 :: r))[2 * j + 1 + 1]› : 0 ≤ dgI (bs (61 :: r))[2 * j + 1] ∧ 0 ≤ dgI (bs (61 :: r))[2 * j + 1 + 1])
          have hv : 16 * dgI (bs (61 :: r))[2 * j + 1] + dgI (bs (61 :: r))[2 * j + 1 + 1] = ((UInt8.ofNat (16 * (dgI (bs (61 :: r))[2 * j + 1]).toNat + (dgI (bs (61 :: r))[2 * j + 1 + 1]).toNat)).toNat : Int) := by have := pair_val2 (bs (61 :: r))[2 * j + 1] (bs (61 :: r))[2 * j + 1 + 1] h.1 h.2; omega
          have h1 := H1.out
          rw [hv] at h1
          refine ⟨j + 1, b ++ [UInt8.ofNat (16 * (dgI (bs (61 :: r))[2 * j + 1]).toNat + (dgI (bs (61 :: r))[2 * j + 1 + 1]).toNat)], by omega, by go_num, OwnM.own ?_, ⟨?_, by simp; exact hp.out.2⟩, (hb.out.trans ((below_alloc1 _ _).mono (by have := hb.out.size; simp at this; omega))).trans H3.out⟩
          · rw [List.length_append, Lib.byteCells_append]; exact h1
          · rw [A1.out, A2.out] at h ⊢
            rw [pfold, hp.out.1]
            simp only
            rw [if_neg (by omega)]
        case measure => simp [intOf]; omega
      · have h : dgI (bs (61 :: r))[2 * j + 1] < 0 := by assumption
        refine bodyPost_ret (v := .agg #[.string ⟨#[]⟩, .int .i64 7]) (by simp [results, Tryz.results25, go_sem, hc0, hc1]) rfl ⟨?_, ?_⟩
        · rw [A1.out] at h
          have hn : pfold r (j + 1) = none := by rw [pfold, hp.out.1]; simp only; rw [if_pos (Or.inl h)]
          rw [pfold_mono r (j + 1) (r.length / 2) hn (by omega)]; rfl
        · exact (hw.out.setCell (p := ⟨w.heap.size, 0, none⟩) (Nat.le_refl _) _).setCell (p := ⟨w.heap.size, 1, none⟩) (Nat.le_refl _) _
    · have hc := ho.out.str (P := Tryz.prog) 106 9 Tryz.underlying106 Tryz.underlying5 Tryz.underlying9
      have hj2 : j = r.length / 2 := by omega
      have HJ := Lib.hid hj2
      clear hj2
      go_wp2
      refine bodyPost_ret (v := .agg #[.string (bs b), .int .i64 0]) (by simp [results, Tryz.results25, go_sem, hc0, hc1]) rfl ⟨?_, ?_⟩
      · rw [← HJ.out, hp.out.1]; rfl
      · exact (hw.out.setCell (p := ⟨w.heap.size, 0, none⟩) (Nat.le_refl _) _).setCell (p := ⟨w.heap.size, 1, none⟩) (Nat.le_refl _) _
set_option maxRecDepth 100000 in
set_option maxHeartbeats 1000000 in
theorem rReadText_no (s : ByteArray) (w : World) (hs : s.size ≤ 100000) (hb : ¬ (s.data.toList.head? = some 61 ∧ (s.size - 1) % 2 = 0 ∧ s.size ≤ 101)) :
    Calls Tryz.prog 25 #[.string s] w fun e w' => e = .returned (wdRes none 7) ∧ Below w.heap.size w w' := by
  by_cases ho : (s.size : Int) % 2 = 1
  · have e2 : ((s.size : Int) % 2 != 1) = false := by rw [ho]; rfl
    have h1 : 0 < s.size := by omega
    by_cases h100 : 101 < s.size
    · clear hb ho
      go_enter Tryz.func25, Tryz.ntmps25
      go_wp2
      refine bodyPost_ret (v := .agg #[.string ⟨#[]⟩, .int .i64 7]) (by simp [results, Tryz.results25, go_sem]) rfl ⟨rfl, below_alloc1 _ _⟩
    · have e3 : ((s[0].toNat : Int) != 61) = true := by
        rw [bne_iff_ne]
        intro e
        apply hb
        refine ⟨?_, by omega, by omega⟩
        rw [List.head?_eq_getElem?, at_list s 0 h1]
        exact congrArg some (UInt8.toNat_inj.1 (show s[0].toNat = 61 by omega))
      clear hb ho
      go_enter Tryz.func25, Tryz.ntmps25
      go_wp2
      refine bodyPost_ret (v := .agg #[.string ⟨#[]⟩, .int .i64 7]) (by simp [results, Tryz.results25, go_sem]) rfl ⟨rfl, below_alloc1 _ _⟩
  · have e2 : ((s.size : Int) % 2 != 1) = true := by rw [bne_iff_ne]; exact ho
    clear hb ho
    go_enter Tryz.func25, Tryz.ntmps25
    go_wp2
    refine bodyPost_ret (v := .agg #[.string ⟨#[]⟩, .int .i64 7]) (by simp [results, Tryz.results25, go_sem]) rfl ⟨rfl, below_alloc1 _ _⟩
/-- The specification's ReadText. -/
theorem rReadTextAll (s : ByteArray) (w : World) (hs : s.size ≤ 100000) :
    Calls Tryz.prog 25 #[.string s] w fun e w' => e = .returned (wdRes (rdText s.data.toList) 7) ∧ Below w.heap.size w w' := by
  by_cases hb : s.data.toList.head? = some 61 ∧ (s.size - 1) % 2 = 0 ∧ s.size ≤ 101
  · obtain ⟨h1, h2, h3⟩ := hb
    cases hl : s.data.toList with
    | nil => rw [hl] at h1; cases h1
    | cons c r =>
      rw [hl] at h1
      simp only [List.head?_cons, Option.some.injEq] at h1
      subst h1
      have hsz : s.size = r.length + 1 := by have := congrArg List.length hl; simpa using this
      have e : s = bs (61 :: r) := by rw [← hl]; rfl
      rw [e]
      have : rdText (61 :: r) = pfold r (r.length / 2) := by simp only [rdText]; rw [if_pos ⟨trivial, by omega, by omega⟩]
      rw [this]
      exact rReadText r w (by omega) (by omega)
  · have hn : rdText s.data.toList = none := by
      cases hl : s.data.toList with
      | nil => rfl
      | cons c r =>
        have hsz : s.size = r.length + 1 := by have := congrArg List.length hl; simpa using this
        rw [hl] at hb
        simp only [List.head?_cons, Option.some.injEq] at hb
        unfold rdText
        simp only
        rw [if_neg]
        intro h
        exact hb ⟨h.1, by omega, by omega⟩
    rw [hn]
    exact rReadText_no s w hs hb
end Go.Proofs.YtmfhpddeclggfaaGreatDoor
namespace Go.Proofs.YtmfhpddeclggfaaGreatDoor
open Go.RowKit
/-- The check of a string. -/
def chk (l : List UInt8) : Nat := l.foldl (fun c b => (c * 17 + b.toNat) % 9973) 0
theorem chk_snoc (l : List UInt8) (b : UInt8) : chk (l ++ [b]) = (chk l * 17 + b.toNat) % 9973 := by simp [chk]
theorem chk_fold (l : List UInt8) : ∀ c : Nat, c < 9973 → l.foldl (fun c b => (c * 17 + b.toNat) % 9973) c < 9973 := by
  induction l with
  | nil => intro c h; exact h
  | cons b r ih => intro c h; exact ih _ (Nat.mod_lt _ (by decide))
theorem chk_lt (l : List UInt8) : chk l < 9973 := chk_fold l 0 (by decide)
set_option maxRecDepth 100000 in
set_option maxHeartbeats 400000 in
theorem sCheck (s : ByteArray) (w : World) (hs : s.size ≤ maxLen) :
    Calls Tryz.prog 35 #[.string s] w fun e w' => e = .returned (.int .i64 (chk s.data.toList)) ∧ w' = w := by
  unfold maxLen at hs
  go_enter Tryz.func35, Tryz.ntmps35
  go_wp2
  go_loop [3, 7] (fun c i => ∃ k : Nat, k ≤ s.size ∧ i = .int .i64 k ∧ c = .int .i64 (chk (s.data.toList.take k))) (fun _ i => s.size - (intOf i).toNat)
  case atStart => exact ⟨0, Nat.zero_le _, rfl, rfl⟩
  case round =>
    obtain ⟨k, hk, rfl, rfl⟩ := hrel
    have hl := chk_lt (s.data.toList.take k)
    by_cases hlt : k < s.size
    · have q0 : wrap64 (s[k].toNat : Int) = s[k].toNat := wrap_byte _
      have lt := s[k].toNat_lt
      go_wp2
      go_round
      case rel => exact ⟨k + 1, by omega, by go_num, congrArg (Value.int .i64) (by rw [take_snoc s k hlt, chk_snoc]; simp)⟩
      case measure => simp [intOf]; omega
    · obtain rfl : k = s.size := by omega
      go_wp2
      go_ret
      exact ⟨ret_int (by rw [List.take_of_length_le (by simp)]), rfl⟩

set_option maxRecDepth 100000 in
set_option maxHeartbeats 400000 in
theorem rCheck (s : ByteArray) (w : World) (hs : s.size ≤ maxLen) :
    Calls Tryz.prog 36 #[.string s] w fun e w' => e = .returned (.int .i64 (chk s.data.toList)) ∧ w' = w := by
  unfold maxLen at hs
  go_enter Tryz.func36, Tryz.ntmps36
  go_wp2
  go_loop [3, 4] (fun c i => ∃ k : Nat, k ≤ s.size ∧ i = .int .i64 k ∧ c = .int .i64 (chk (s.data.toList.take k))) (fun _ i => s.size - (intOf i).toNat)
  case atStart => exact ⟨0, Nat.zero_le _, rfl, rfl⟩
  case round =>
    obtain ⟨k, hk, rfl, rfl⟩ := hrel
    have hl := chk_lt (s.data.toList.take k)
    by_cases hlt : k < s.size
    · have q0 : wrap64 (s[k].toNat : Int) = s[k].toNat := wrap_byte _
      have lt := s[k].toNat_lt
      go_wp2
      go_round
      case rel => exact ⟨k + 1, by omega, by go_num, congrArg (Value.int .i64) (by rw [take_snoc s k hlt, chk_snoc]; simp)⟩
      case measure => simp [intOf]; omega
    · obtain rfl : k = s.size := by omega
      go_wp2
      go_ret
      exact ⟨ret_int (by rw [List.take_of_length_le (by simp)]), rfl⟩
/-- The integer behind a mark, and whether the string is just these. -/
def mk64 (l : List UInt8) : List UInt8 := Lib.trimPrefix l [64]
def mkRes (l : List UInt8) : Value := .tuple #[.int .i64 ((rdInt (mk64 l)).getD 0), .bool (Lib.hasPrefix l [64] && (rdInt (mk64 l)).isSome)]
set_option maxRecDepth 100000 in
set_option maxHeartbeats 400000 in
theorem sMarked (s : ByteArray) (w : World) (hs : s.size ≤ 1000000) (he : Env w) :
    Calls Tryz.prog 99 #[.string s] w fun e w' => e = .returned (mkRes s.data.toList) ∧ Below w.heap.size w w' := by
  have HE := Lib.hid he
  clear he
  have hl : Hid ((bs (mk64 s.data.toList)).size ≤ 1000000) := by
    unfold Hid
    rw [bs_size]
    unfold mk64 Lib.trimPrefix
    split
    · simp; omega
    · simp; omega
  go_enter Tryz.func99, Tryz.ntmps99
  go_wp2_with fail
  refine (Tryz.strings_CutPrefix s ⟨#[64]⟩ w).mono ?_
  rintro e w' ⟨rfl, rfl⟩
  rw [show (ByteArray.mk (Lib.trimPrefix s.data.toList (ByteArray.mk #[64]).data.toList).toArray) = bs (mk64 s.data.toList) from rfl]
  rw [show Lib.hasPrefix s.data.toList (ByteArray.mk #[64]).data.toList = Lib.hasPrefix s.data.toList [64] from rfl]
  go_wp2_with fail
  refine (sReadInt _ _ hl.out HE.out).mono ?_
  rintro e w2 ⟨rfl, hb⟩
  have HB := Lib.hid hb
  clear hb
  unfold rdRes
  rw [bs_list]
  cases hr : rdInt (mk64 s.data.toList) with
  | none =>
    cases hp : Lib.hasPrefix s.data.toList [64] with
    | true =>
      have HM : Hid (mkRes s.data.toList = .tuple #[.int .i64 0, .bool false]) := by unfold Hid mkRes; rw [hr, hp]; rfl
      clear hr hp
      go_wp2_with fail
      go_ret2
      exact ⟨by rw [HM.out]; rfl, HB.out⟩
    | false =>
      have HM : Hid (mkRes s.data.toList = .tuple #[.int .i64 0, .bool false]) := by unfold Hid mkRes; rw [hr, hp]; rfl
      clear hr hp
      go_wp2_with fail
      go_ret2
      exact ⟨by rw [HM.out]; rfl, HB.out⟩
  | some v =>
    cases hp : Lib.hasPrefix s.data.toList [64] with
    | true =>
      have HM : Hid (mkRes s.data.toList = .tuple #[.int .i64 v, .bool true]) := by unfold Hid mkRes; rw [hr, hp]; rfl
      clear hr hp
      go_wp2_with fail
      go_ret2
      exact ⟨by rw [HM.out]; rfl, HB.out⟩
    | false =>
      have HM : Hid (mkRes s.data.toList = .tuple #[.int .i64 v, .bool false]) := by unfold Hid mkRes; rw [hr, hp]; rfl
      clear hr hp
      go_wp2_with fail
      go_ret2
      exact ⟨by rw [HM.out]; rfl, HB.out⟩
end Go.Proofs.YtmfhpddeclggfaaGreatDoor
namespace Go.Proofs.YtmfhpddeclggfaaGreatDoor
open Go.RowKit
def spkv (f b : Bool) (n : Int) : Option Int := if f = true ∧ b = true ∧ 1 ≤ n ∧ n ≤ 400 then some n else none
def cutH (l : List UInt8) : List UInt8 := (Lib.cut l [32]).1
def cutF (l : List UInt8) : Bool := (Lib.cut l [32]).2.2
/-- The number of which a piece speaks. -/
def spk (l : List UInt8) : Option Int := spkv (cutF l) (Lib.hasPrefix (cutH l) [64] && (rdInt (mk64 (cutH l))).isSome) ((rdInt (mk64 (cutH l))).getD 0)
def spRes (o : Option Int) : Value := .tuple #[.int .i64 (o.getD 0), .bool o.isSome]
theorem cut_len (l : List UInt8) : (cutH l).length ≤ l.length := by
  unfold cutH Lib.cut
  split
  · simp; omega
  · simp
set_option maxRecDepth 100000 in
set_option maxHeartbeats 1000000 in
theorem sSpeaks (s : ByteArray) (w : World) (hs : s.size ≤ 1000000) (he : Env w) :
    Calls Tryz.prog 42 #[.string s] w fun e w' => e = .returned (spRes (spk s.data.toList)) ∧ Below w.heap.size w w' := by
  have HE := Lib.hid he
  obtain ⟨m, hm⟩ := he.mx
  have HM := Lib.hid hm
  clear he hm
  have hl : Hid ((bs (cutH s.data.toList)).size ≤ 1000000) := by
    unfold Hid
    rw [bs_size]
    have := cut_len s.data.toList
    simp at this
    omega
  go_enter Tryz.func42, Tryz.ntmps42
  go_wp2_with fail
  refine (Tryz.strings_Cut s ⟨#[32]⟩ m w (by omega) HM.out).mono ?_
  rintro e w1 ⟨rfl, nd, rfl⟩
  rw [show (ByteArray.mk (Lib.cut s.data.toList (ByteArray.mk #[32]).data.toList).1.toArray) = bs (cutH s.data.toList) from rfl]
  rw [show (Lib.cut s.data.toList (ByteArray.mk #[32]).data.toList).2.2 = cutF s.data.toList from rfl]
  have HE1 : Hid (Env (w.drewN nd)) := HE.out.next (below_drewN (Below.refl _ _) nd)
  go_wp2_with fail
  refine (sMarked _ _ hl.out HE1.out).mono ?_
  rintro e w2 ⟨rfl, hb⟩
  have HB : Hid (Below w.heap.size w w2) := (below_drewN (Below.refl _ _) nd).trans hb
  clear hb
  unfold mkRes
  rw [bs_list]
  obtain ⟨n, hn⟩ : ∃ n, (rdInt (mk64 (cutH s.data.toList))).getD 0 = n := ⟨_, rfl⟩
  obtain ⟨b, hb⟩ : ∃ b, (Lib.hasPrefix (cutH s.data.toList) [64] && (rdInt (mk64 (cutH s.data.toList))).isSome) = b := ⟨_, rfl⟩
  obtain ⟨f, hf⟩ : ∃ f, cutF s.data.toList = f := ⟨_, rfl⟩
  have HR : Hid (spk s.data.toList = spkv f b n) := by unfold Hid spk; rw [hn, hb, hf]
  rw [hn, hb, hf]
  clear hn hb hf
  cases f with
  | false =>
    go_wp2_with fail
    go_ret2
    exact ⟨by rw [HR.out]; rfl, HB.out⟩
  | true =>
    cases b with
    | false =>
      go_wp2_with fail
      go_ret2
      exact ⟨by rw [HR.out]; rfl, HB.out⟩
    | true =>
      by_cases h1 : n < 1
      · have HS : Hid (spkv true true n = none) := by unfold Hid spkv; rw [if_neg (by omega)]
        go_wp2_with fail
        go_ret2
        exact ⟨by rw [HR.out, HS.out]; rfl, HB.out⟩
      · by_cases h2 : 400 < n
        · have HS : Hid (spkv true true n = none) := by unfold Hid spkv; rw [if_neg (by omega)]
          go_wp2_with fail
          go_ret2
          exact ⟨by rw [HR.out, HS.out]; rfl, HB.out⟩
        · have HS : Hid (spkv true true n = some n) := by unfold Hid spkv; rw [if_pos ⟨rfl, rfl, by omega, by omega⟩]
          go_wp2_with fail
          go_ret2
          exact ⟨by rw [HR.out, HS.out]; rfl, HB.out⟩
end Go.Proofs.YtmfhpddeclggfaaGreatDoor
namespace Go.Proofs.YtmfhpddeclggfaaGreatDoor
open Go.RowKit
/-- What a slice of strings reads as. -/
def StrsAt (w : World) (p : Option Addr) (ws : List ByteArray) : Prop :=
  ws = [] ∨ ∃ b o, p = some ⟨b, o, none⟩ ∧ b < w.heap.size ∧ ∀ j, j < ws.length → w.cell? ⟨b, o + j, none⟩ = some (.string (ws.getD j ByteArray.empty))
theorem StrsAt.below {w w' : World} {p : Option Addr} {ws : List ByteArray} (h : StrsAt w p ws) (hb : Below w.heap.size w w') : StrsAt w' p ws := by
  rcases h with h | ⟨b, o, h1, h2, h3⟩
  · exact Or.inl h
  · exact Or.inr ⟨b, o, h1, by have := hb.size; omega, fun j hj => by rw [hb.cell (p := ⟨b, o + j, none⟩) h2]; exact h3 j hj⟩
def wordsOk (ws : List ByteArray) : Bool := ws.all fun s => wordL s.data.toList
/-- The first error of a line. -/
def lineErr (n : Int) (ws : List ByteArray) : Int :=
  if n < 1 ∨ 400 < n then 1 else if 40 < ws.length then 2 else if wordsOk ws then 0 else 10
theorem words_not (ws : List ByteArray) (j : Nat) (h : j < ws.length) (hw : wordL (ws.getD j ByteArray.empty).data.toList = false) : wordsOk ws = false := by
  unfold wordsOk
  rw [List.all_eq_false]
  refine ⟨ws[j], List.getElem_mem _, ?_⟩
  rw [List.getD, List.getElem?_eq_getElem h] at hw
  simpa using hw
theorem words_snoc (ws : List ByteArray) (j : Nat) (h : j < ws.length) (ha : wordsOk (ws.take j) = true) (hw : wordL (ws.getD j ByteArray.empty).data.toList = true) : wordsOk (ws.take (j + 1)) = true := by
  unfold wordsOk at ha ⊢
  rw [List.take_succ_eq_append_getElem h, List.all_append, ha]
  rw [List.getD, List.getElem?_eq_getElem h] at hw
  simpa using hw
set_option maxRecDepth 100000 in
set_option maxHeartbeats 1000000 in
theorem sCheckLine (n : Int) (p : Option Addr) (cap : Nat) (ws : List ByteArray) (w : World) (hl : ws.length ≤ maxLen) (hs : ∀ j, (ws.getD j ByteArray.empty).size ≤ maxLen) (hp : StrsAt w p ws) :
    Calls Tryz.prog 85 #[.agg #[.int .i64 n, .slice p ws.length cap]] w fun e w' => e = .returned (.int .i64 (lineErr n ws)) ∧ Below w.heap.size w w' := by
  have HS := Lib.hid hs
  have HP := Lib.hid hp
  clear hs hp
  unfold maxLen at hl
  by_cases h1 : n < 1
  · have HR : Hid (lineErr n ws = 1) := by unfold Hid lineErr; rw [if_pos (Or.inl h1)]
    go_enter Tryz.func85, Tryz.ntmps85
    go_wp2_with fail
    go_ret
    exact ⟨ret_int HR.out.symm, below_alloc1 _ _⟩
  by_cases h2 : 400 < n
  · have HR : Hid (lineErr n ws = 1) := by unfold Hid lineErr; rw [if_pos (Or.inr h2)]
    go_enter Tryz.func85, Tryz.ntmps85
    go_wp2_with fail
    go_ret
    exact ⟨ret_int HR.out.symm, below_alloc1 _ _⟩
  by_cases h3 : 40 < ws.length
  · have HR : Hid (lineErr n ws = 2) := by unfold Hid lineErr; rw [if_neg (by omega), if_pos h3]
    go_enter Tryz.func85, Tryz.ntmps85
    go_wp2_with fail
    go_ret
    exact ⟨ret_int HR.out.symm, below_alloc1 _ _⟩
  have HR : Hid (lineErr n ws = if wordsOk ws then 0 else 10) := by unfold Hid lineErr; rw [if_neg (by omega), if_neg h3]
  go_enter Tryz.func85, Tryz.ntmps85
  go_wp2_with fail
  go_loop [20] (fun i => ∃ k : Nat, k ≤ ws.length ∧ i = .int .i64 k ∧ Hid (wordsOk (ws.take k) = true)) (fun i => ws.length - (intOf i).toNat)
  case atStart => exact ⟨0, Nat.zero_le _, rfl, rfl⟩
  case round =>
    obtain ⟨k, hk, rfl, ha⟩ := hrel
    by_cases hlt : k < ws.length
    · obtain ⟨b, o, s, rfl, hb, hc, hs⟩ : ∃ b o s, p = some ⟨b, o, none⟩ ∧ b < w.heap.size ∧ w.cell? ⟨b, o + k, none⟩ = some (.string s) ∧ Hid (ws.getD k ByteArray.empty = s) := by
        rcases HP.out with h | ⟨b, o, e1, e2, e3⟩
        · rw [h] at hlt; exact absurd hlt (by simp)
        · exact ⟨b, o, _, e1, e2, e3 k hlt, rfl⟩
      have hz : Hid (s.size ≤ maxLen) := by have := HS.out k; rw [hs.out] at this; exact this
      cases hwd : wordL s.data.toList with
      | false =>
        have W := (Word_any s (w.alloc (.cells #[.int .i64 n, .slice (some ⟨b, o, none⟩) ws.length cap] 39)) hz.out)
        rw [hwd] at W
        have HW := Lib.hid W
        have hn : Hid (wordsOk ws = false) := words_not ws k hlt (by rw [hs.out]; exact hwd)
        clear W hwd
        go_wp2_with fail
        refine HW.out.mono ?_
        rintro e w' ⟨rfl, rfl⟩
        clear HW
        go_wp2_with fail
        go_ret
        exact ⟨ret_int (by rw [HR.out, hn.out]; rfl), below_alloc1 _ _⟩
      | true =>
        have W := (Word_any s (w.alloc (.cells #[.int .i64 n, .slice (some ⟨b, o, none⟩) ws.length cap] 39)) hz.out)
        rw [hwd] at W
        have HW := Lib.hid W
        have hn : Hid (wordsOk (ws.take (k + 1)) = true) := words_snoc ws k hlt ha.out (by rw [hs.out]; exact hwd)
        clear W hwd
        go_wp2_with fail
        refine HW.out.mono ?_
        rintro e w' ⟨rfl, rfl⟩
        clear HW
        go_wp2_with fail
        go_round
        case rel => exact ⟨k + 1, by omega, by go_num, hn⟩
        case measure => simp [intOf]; omega
    · obtain rfl : k = ws.length := by omega
      go_wp2_with fail
      go_ret
      refine ⟨ret_int ?_, below_alloc1 _ _⟩
      have := ha.out
      rw [List.take_length] at this
      rw [HR.out, this]; rfl
end Go.Proofs.YtmfhpddeclggfaaGreatDoor
namespace Go.Proofs.YtmfhpddeclggfaaGreatDoor
open Go.RowKit
/-- Four decimal digits. -/
def four (n : Nat) : List UInt8 := (Lib.decDigits (10000 + n)).drop 1
theorem four_len (n : Nat) (h : n < 10000) : (four n).length = 4 := by
  unfold four
  rw [List.length_drop, Lib.decDigits_length, Lib.nDigits_unique 4 (10000 + n) (by omega) (by omega)]
theorem extract_drop (l : List UInt8) (k : Nat) : (bs l).extract k (bs l).size = bs (l.drop k) := by
  apply ByteArray.ext
  apply Array.ext'
  simp [bs, ByteArray.size]
  rw [List.take_of_length_le (by simp)]
set_option maxRecDepth 100000 in
set_option maxHeartbeats 1000000 in
theorem sFour (n : Nat) (w : World) (hn : n < 10000) (he : Env w) :
    Calls Tryz.prog 88 #[.int .i64 (n : Int)] w fun e w' => e = .returned (.string (bs (four n))) ∧ Below w.heap.size w w' := by
  have HE := Lib.hid he
  clear he
  have e1 : (bs (Lib.itoa (10000 + (n : Int)))) = bs (Lib.decDigits (10000 + n)) := by
    rw [show (10000 + (n : Int)) = ((10000 + n : Nat) : Int) from by omega, Lib.itoa_nonneg]
  have hsz : (bs (Lib.decDigits (10000 + n))).size = 5 := by
    rw [bs_size, Lib.decDigits_length, Lib.nDigits_unique 4 (10000 + n) (by omega) (by omega)]
  have E1 := Lib.hid e1
  have HX := Lib.hid (extract_drop (Lib.decDigits (10000 + n)) 1)
  have H1 : 1 ≤ (bs (Lib.decDigits (10000 + n))).size := by omega
  clear e1 hsz
  go_enter Tryz.func88, Tryz.ntmps88
  go_wp2_with fail
  refine (sInt _ _ (i64_small (by omega) (by omega)) HE.out).mono ?_
  rintro e w1 ⟨rfl, hb⟩
  have HB := Lib.hid hb
  clear hb
  rw [E1.out]
  go_wp2_with fail
  go_ret
  exact ⟨ret_str HX.out, HB.out⟩
end Go.Proofs.YtmfhpddeclggfaaGreatDoor
namespace Go.Proofs.YtmfhpddeclggfaaGreatDoor
open Go.RowKit
theorem Tryz.Builder_WriteString_f (B b : Nat) (bs : List Value) (s : ByteArray) (w : World) (h : Lib.IsBuilderF 137 5 B b bs w) (hlen : bs.length + s.size ≤ 140737488355328) (hBw : B ≤ w.heap.size) :
    Calls Tryz.prog 87 #[.pointer (some ⟨b, 0, none⟩), .string s] w fun e w' => e = .returned (.tuple #[.int .i64 s.size, .nilIface]) ∧ (Lib.BuilderAtF 137 5 B b (.pointer (some ⟨b, 0, none⟩)) (bs ++ Lib.strCells s) w' ∧ Below B w w') := Any.Builder_WriteString_f Tryz.lays166 Tryz.Builder_Extra_166 B b bs s w h hlen hBw
/-- A builder of the call's own that holds these bytes. -/
def Bld (w : World) (B b : Nat) (l : List UInt8) : Prop := Lib.IsBuilderF 137 5 B b (Lib.byteCells l) w
theorem below_grown {w w' : World} (h : Below w.heap.size w w') : w.grownBy w' none := ⟨h.os, h.tape, h.output, h.size, fun k hk _ => h.block k hk⟩
theorem builderF_kept {w w' : World} {B b : Nat} {p : Value} {l : List Value} (h : Lib.BuilderAtF 137 5 B b p l w) (hb : Below w.heap.size w w') : Lib.BuilderAtF 137 5 B b p l w' := by
  obtain ⟨h1, v, h2, h3, h4⟩ := h
  have hlt : b < w.heap.size := (Array.getElem?_eq_some_iff.1 h2).1
  refine ⟨h1, v, by rw [hb.block b hlt]; exact h2, h3.kept (below_grown hb) ?_, h4⟩
  cases hv : v.ownBlock with
  | none => exact Or.inl rfl
  | some k => exact Or.inr (by simp)
theorem Bld.kept {w w' : World} {B b : Nat} {l : List UInt8} (h : Bld w B b l) (hb : Below w.heap.size w w') : Bld w' B b l := by
  rcases h with h | h
  · exact Or.inl (builderF_kept h hb)
  · exact Or.inr (builderF_kept h hb)
theorem bld_fresh (w : World) : Lib.IsBuilder 137 5 w.heap.size w.heap.size [] (w.alloc (.cells #[.pointer none, .slice none 0 0] 137)) := Lib.fresh_isBuilder 137 5 w
theorem bWriteByte (B b : Nat) (c : UInt8) (z : Int) (hz : z = c.toNat) (w : World) (h : Lib.IsBuilder 137 5 B b [] w) (hB : B ≤ w.heap.size) :
    Calls Tryz.prog 86 #[.pointer (some ⟨b, 0, none⟩), .int .u8 z] w fun e w' => e = .returned .nilIface ∧ Bld w' B b [c] ∧ Below B w w' := by
  subst hz
  exact (Tryz.Builder_WriteByte B b [] c.toNat w h (by simp) hB).mono fun e w' ⟨h1, h2, h3⟩ => ⟨h1, Lib.IsBuilderF.of (Or.inr h2), h3⟩
theorem bWriteString (B b : Nat) (l : List UInt8) (s : ByteArray) (w : World) (h : Bld w B b l) (hlen : l.length + s.size ≤ 1000000) (hB : B ≤ w.heap.size) :
    Calls Tryz.prog 87 #[.pointer (some ⟨b, 0, none⟩), .string s] w fun e w' => e = .returned (.tuple #[.int .i64 s.size, .nilIface]) ∧ Bld w' B b (l ++ s.data.toList) ∧ Below B w w' :=
  (Tryz.Builder_WriteString_f B b _ s w h (by rw [Lib.byteCells_length]; omega) hB).mono fun e w' ⟨h1, h2, h3⟩ => ⟨h1, Or.inr (by rw [Lib.byteCells_append]; exact h2), h3⟩
theorem bString (B b : Nat) (l : List UInt8) (w : World) (h : Bld w B b l) (hB : B ≤ w.heap.size) :
    Calls Tryz.prog 89 #[.pointer (some ⟨b, 0, none⟩)] w fun e w' => e = .returned (.string (bs l)) ∧ Bld w' B b l ∧ Below B w w' :=
  (Tryz.Builder_String_any_f B b l w h hB).mono fun _ _ h => h
def wordsL (ws : List ByteArray) : List UInt8 := ws.flatMap fun s => 32 :: s.data.toList
/-- What stands ahead of the check of a line. -/
def headL (n : Int) (ws : List ByteArray) : List UInt8 := [64] ++ Lib.itoa n ++ [32] ++ Lib.itoa ws.length ++ wordsL ws
/-- The text of a line. -/
def lineT (n : Int) (ws : List ByteArray) : List UInt8 := headL n ws ++ [32] ++ four (chk (headL n ws))
theorem wordsL_snoc (ws : List ByteArray) (k : Nat) (h : k < ws.length) : wordsL (ws.take (k + 1)) = wordsL (ws.take k) ++ [32] ++ (ws.getD k ByteArray.empty).data.toList := by
  unfold wordsL
  rw [List.take_succ_eq_append_getElem h, List.flatMap_append, List.getD, List.getElem?_eq_getElem h]
  simp
theorem wordsL_len : ∀ (ws : List ByteArray), (∀ s ∈ ws, s.size ≤ 120) → (wordsL ws).length ≤ 121 * ws.length
  | [], _ => by simp [wordsL]
  | s :: r, h => by
    have ih := wordsL_len r fun x hx => h x (List.mem_cons_of_mem _ hx)
    have h1 := h s List.mem_cons_self
    unfold wordsL at ih ⊢
    rw [List.flatMap_cons, List.length_append, List.length_cons, List.length_cons]
    have : s.data.toList.length = s.size := by simp
    omega
/-- How the world stands while a line is written. -/
structure St (w0 W : World) (n : Int) (p : Option Addr) (cap : Nat) (ws : List ByteArray) (B : Nat) (l : List UInt8) : Prop where
  bel : Below w0.heap.size w0 W
  lt : w0.heap.size < B
  c0 : W.cell? ⟨w0.heap.size, 0, none⟩ = some (.int .i64 n)
  c1 : W.cell? ⟨w0.heap.size, 1, none⟩ = some (.slice p ws.length cap)
  strs : StrsAt W p ws
  strsB : StrsAt w0 p ws
  env : Env W
  eight : 8 ≤ w0.heap.size
  bld : Bld W B B l
  hB : B ≤ W.heap.size
theorem St.next {w0 W W' : World} {n : Int} {p : Option Addr} {cap : Nat} {ws : List ByteArray} {B : Nat} {l l' : List UInt8} (h : St w0 W n p cap ws B l) (hb : Below B W W') (hl : Bld W' B B l') : St w0 W' n p cap ws B l' := by
  have b' : Below w0.heap.size w0 W' := h.bel.trans (hb.mono (Nat.le_of_lt h.lt))
  exact ⟨b', h.lt, by rw [hb.cell (p := ⟨w0.heap.size, 0, none⟩) h.lt]; exact h.c0, by rw [hb.cell (p := ⟨w0.heap.size, 1, none⟩) h.lt]; exact h.c1,
    h.strsB.below b', h.strsB, h.env.below hb (by have := h.lt; have := h.eight; omega), h.eight, hl, by have := hb.size; have := h.hB; omega⟩
theorem St.keep {w0 W W' : World} {n : Int} {p : Option Addr} {cap : Nat} {ws : List ByteArray} {B : Nat} {l : List UInt8} (h : St w0 W n p cap ws B l) (hb : Below W.heap.size W W') : St w0 W' n p cap ws B l :=
  h.next (hb.mono h.hB) (h.bld.kept hb)

def wrRes (n : Int) (ws : List ByteArray) : Value := if lineErr n ws = 0 then .tuple #[.string (bs (lineT n ws)), .int .i64 0] else .tuple #[.string ⟨#[]⟩, .int .i64 (lineErr n ws)]
theorem lineErr_ok {n : Int} {ws : List ByteArray} (h : lineErr n ws = 0) : 1 ≤ n ∧ n ≤ 400 ∧ ws.length ≤ 40 ∧ wordsOk ws = true := by
  unfold lineErr at h
  split at h
  · cases h
  · split at h
    · cases h
    · split at h
      · exact ⟨by omega, by omega, by omega, by assumption⟩
      · cases h
theorem wordsOk_size {ws : List ByteArray} (h : wordsOk ws = true) : ∀ s ∈ ws, s.size ≤ 120 := by
  intro s hs
  unfold wordsOk at h
  have := List.all_eq_true.1 h s hs
  unfold wordL at this
  simp at this
  omega
set_option maxRecDepth 100000 in
set_option maxHeartbeats 1000000 in
theorem sWrite (n : Int) (p : Option Addr) (cap : Nat) (ws : List ByteArray) (w : World) (hl : ws.length ≤ maxLen) (hs : ∀ j, (ws.getD j ByteArray.empty).size ≤ maxLen) (hp : StrsAt w p ws) (he : Env w) :
    Calls Tryz.prog 31 #[.agg #[.int .i64 n, .slice p ws.length cap]] w fun e w' => e = .returned (wrRes n ws) ∧ Below w.heap.size w w' := by
  have C := sCheckLine n p cap ws (w.alloc (.cells #[.int .i64 n, .slice p ws.length cap] 39)) hl hs (hp.below (below_alloc1 _ _))
  have HE := Lib.hid he
  have HP := Lib.hid hp
  clear hs hp he hl
  by_cases h0 : lineErr n ws = 0
  · have HR : Hid (wrRes n ws = .tuple #[.string (bs (lineT n ws)), .int .i64 0]) := by unfold Hid wrRes; rw [if_pos h0]
    have HO := Lib.hid (lineErr_ok h0)
    rw [h0] at C
    have HC := Lib.hid C
    clear C h0
    go_enter Tryz.func31, Tryz.ntmps31
    go_wp2_with fail
    refine HC.out.mono ?_
    rintro e w1 ⟨rfl, hb⟩
    clear HC
    rw [World.size_alloc] at hb
    have hb0 : Below (w.heap.size + 1) (w.alloc (.cells #[.int .i64 n, .slice p ws.length cap] 39)) (w1.alloc (.cells #[.pointer none, .slice none 0 0] 137)) := hb.alloc (by have := hb.size; simp at this; omega) _
    have hsz : w.heap.size < w1.heap.size := by have := hb.size; simp at this; omega
    have hbw : Below w.heap.size w (w1.alloc (.cells #[.pointer none, .slice none 0 0] 137)) := (below_alloc1 _ _).trans (hb0.mono (Nat.le_succ _))
    have s0 : ∀ l, Bld (w1.alloc (.cells #[.pointer none, .slice none 0 0] 137)) w1.heap.size w1.heap.size l → St w (w1.alloc (.cells #[.pointer none, .slice none 0 0] 137)) n p cap ws w1.heap.size l := fun l hl =>
      ⟨hbw, hsz, by rw [hb0.cell (p := ⟨w.heap.size, 0, none⟩) (by show w.heap.size < _; omega)]; simp, by rw [hb0.cell (p := ⟨w.heap.size, 1, none⟩) (by show w.heap.size < _; omega)]; simp,
        HP.out.below hbw, HP.out, HE.out.next hbw, HE.out.size, hl, by simp⟩
    have S0 := Lib.hid (s0 [] (Lib.IsBuilderF.of (bld_fresh w1)))
    clear s0 hb0 hbw hb
    have hn := HO.out.1
    have hn2 := HO.out.2.1
    have hwl := HO.out.2.2.1
    have hpre : Hid (∀ k, (wordsL (ws.take k)).length ≤ 121 * 40) := by
      intro k
      have := wordsL_len (ws.take k) fun s hs => wordsOk_size HO.out.2.2.2 s (List.mem_of_mem_take hs)
      have h2 : (ws.take k).length ≤ 40 := by rw [List.length_take]; omega
      have := Nat.mul_le_mul_left 121 h2
      omega
    have li : Hid (∀ m : Int, 0 ≤ m → m ≤ 1000 → (Lib.itoa m).length ≤ 20) := fun m h0 h1 => (itoa_len m (by omega) (by omega)).2
    go_wp2_with fail
    refine (bWriteByte w1.heap.size w1.heap.size 64 64 rfl _ (bld_fresh w1) (by simp)).mono ?_
    rintro e w2 ⟨rfl, hbl, hbe⟩
    have S1 := Lib.hid (S0.out.next hbe hbl)
    clear S0 hbl hbe
    have c0 := S1.out.c0
    have c1 := S1.out.c1
    go_wp2_with fail
    refine (sInt n _ (i64_small (by omega) (by omega)) S1.out.env).mono ?_
    rintro e w3 ⟨rfl, hbe⟩
    have S2 := Lib.hid (S1.out.keep hbe)
    clear S1 hbe c0 c1
    have c0 := S2.out.c0
    have c1 := S2.out.c1
    go_wp2_with fail
    refine (bWriteString w1.heap.size w1.heap.size _ _ _ S2.out.bld (by rw [bs_size]; have := li.out n (by omega) (by omega); simp; omega) S2.out.hB).mono ?_
    rintro e w4 ⟨rfl, hbl, hbe⟩
    have S3 := Lib.hid (S2.out.next hbe hbl)
    clear S2 hbl hbe c0 c1
    have c0 := S3.out.c0
    have c1 := S3.out.c1
    go_wp2_with fail
    refine (bWriteString w1.heap.size w1.heap.size _ ⟨#[32]⟩ _ S3.out.bld (by have := li.out n (by omega) (by omega); simp [bs, ByteArray.size]; omega) S3.out.hB).mono ?_
    rintro e w5 ⟨rfl, hbl, hbe⟩
    have S4 := Lib.hid (S3.out.next hbe hbl)
    clear S3 hbl hbe c0 c1
    have c0 := S4.out.c0
    have c1 := S4.out.c1
    go_wp2_with fail
    refine (sInt (ws.length : Int) _ (i64_small (by omega) (by omega)) S4.out.env).mono ?_
    rintro e w6 ⟨rfl, hbe⟩
    have S5 := Lib.hid (S4.out.keep hbe)
    clear S4 hbe c0 c1
    have c0 := S5.out.c0
    have c1 := S5.out.c1
    go_wp2_with fail
    refine (bWriteString w1.heap.size w1.heap.size _ _ _ S5.out.bld (by rw [bs_size]; have := li.out n (by omega) (by omega); have := li.out ws.length (by omega) (by omega); simp [bs]; omega) S5.out.hB).mono ?_
    rintro e w7 ⟨rfl, hbl, hbe⟩
    have S6 := Lib.hid (S5.out.next hbe hbl)
    clear S5 hbl hbe c0 c1
    have c0 := S6.out.c0
    have c1 := S6.out.c1
    have S7 : Hid (St w w7 n p cap ws w1.heap.size ([64] ++ Lib.itoa n ++ [32] ++ Lib.itoa ws.length ++ wordsL (ws.take 0))) := by
      have := S6.out
      unfold Hid
      rw [show wordsL (ws.take 0) = [] from rfl, List.append_nil]
      exact this
    clear S6 c0 c1
    have c0 := S7.out.c0
    have c1 := S7.out.c1
    go_wp2_with fail
    clear c0 c1
    go_loopw [28] (fun i wr => ∃ k : Nat, k ≤ ws.length ∧ i = .int .i64 k ∧ Hid (St w wr n p cap ws w1.heap.size ([64] ++ Lib.itoa n ++ [32] ++ Lib.itoa ws.length ++ wordsL (ws.take k)))) (fun i _ => ws.length - (intOf i).toNat)
    case atStart => exact ⟨0, Nat.zero_le _, rfl, S7⟩
    case round =>
      clear S7
      obtain ⟨k, hk, rfl, S⟩ := hrel
      by_cases hlt : k < ws.length
      · obtain ⟨b, o, s, rfl, hb, hc, hs⟩ : ∃ b o s, p = some ⟨b, o, none⟩ ∧ b < wr.heap.size ∧ wr.cell? ⟨b, o + k, none⟩ = some (.string s) ∧ Hid (ws.getD k ByteArray.empty = s) := by
          rcases S.out.strs with h | ⟨b, o, e1, e2, e3⟩
          · rw [h] at hlt; exact absurd hlt (by simp)
          · exact ⟨b, o, _, e1, e2, e3 k hlt, rfl⟩
        have hss : s.size ≤ 120 := by
          have := wordsOk_size HO.out.2.2.2 (ws[k]) (List.getElem_mem _)
          have e := hs.out
          rw [List.getD, List.getElem?_eq_getElem hlt] at e
          rw [← e]; exact this
        have hpk := hpre.out k
        have l1 := li.out n (by omega) (by omega)
        have l2 := li.out ws.length (by omega) (by omega)
        go_wp2_with fail
        refine (bWriteString w1.heap.size w1.heap.size _ ⟨#[32]⟩ _ S.out.bld (by simp [ByteArray.size]; omega) S.out.hB).mono ?_
        rintro e w8 ⟨rfl, hbl, hbe⟩
        have S8 := Lib.hid (S.out.next hbe hbl)
        clear hc hbl hbe
        go_wp2_with fail
        refine (bWriteString w1.heap.size w1.heap.size _ s _ S8.out.bld (by simp; omega) S8.out.hB).mono ?_
        rintro e w9 ⟨rfl, hbl, hbe⟩
        have S9 := Lib.hid (S8.out.next hbe hbl)
        clear S8 hbl hbe
        go_wp2_with fail
        go_roundw
        case rel =>
          refine ⟨k + 1, by omega, by go_num, ?_⟩
          have := S9.out
          unfold Hid
          rw [wordsL_snoc ws k hlt, hs.out]
          simpa [List.append_assoc] using this
        case measure => simp [intOf]; omega
      · obtain rfl : k = ws.length := by omega
        have hpk := hpre.out ws.length
        rw [List.take_length] at hpk
        have l1 := li.out n (by omega) (by omega)
        have l2 := li.out ws.length (by omega) (by omega)
        have S8 : Hid (St w wr n p cap ws w1.heap.size (headL n ws)) := by
          have := S.out
          rw [List.take_length] at this
          exact this
        have hh : (headL n ws).length ≤ 6000 := by unfold headL; simp; omega
        clear S
        go_wp2_with fail
        refine (bString w1.heap.size w1.heap.size _ _ S8.out.bld S8.out.hB).mono ?_
        rintro e w8 ⟨rfl, hbl, hbe⟩
        have S9 := Lib.hid (S8.out.next hbe hbl)
        clear S8 hbl hbe
        go_wp2_with fail
        refine (sCheck _ _ (by rw [bs_size]; unfold maxLen; omega)).mono ?_
        rintro e w' ⟨rfl, rfl⟩
        rw [bs_list]
        go_wp2_with fail
        refine (sFour _ _ (by have := chk_lt (headL n ws); omega) S9.out.env).mono ?_
        rintro e w10 ⟨rfl, hbe⟩
        have S10 := Lib.hid (S9.out.keep hbe)
        clear S9 hbe
        have hf := four_len (chk (headL n ws)) (by have := chk_lt (headL n ws); omega)
        go_wp2_with fail
        refine (bWriteString w1.heap.size w1.heap.size _ ⟨#[32]⟩ _ S10.out.bld (by simp [ByteArray.size]; omega) S10.out.hB).mono ?_
        rintro e w11 ⟨rfl, hbl, hbe⟩
        have S11 := Lib.hid (S10.out.next hbe hbl)
        clear S10 hbl hbe
        go_wp2_with fail
        refine (bWriteString w1.heap.size w1.heap.size _ _ _ S11.out.bld (by rw [bs_size, hf]; simp; omega) S11.out.hB).mono ?_
        rintro e w12 ⟨rfl, hbl, hbe⟩
        have S12 := Lib.hid (S11.out.next hbe hbl)
        clear S11 hbl hbe
        go_wp2_with fail
        refine (bString w1.heap.size w1.heap.size _ _ S12.out.bld S12.out.hB).mono ?_
        rintro e w13 ⟨rfl, hbl, hbe⟩
        have S13 := Lib.hid (S12.out.next hbe hbl)
        clear S12 hbl hbe
        go_wp2_with fail
        go_ret2
        exact ⟨by rw [HR.out, show lineT n ws = headL n ws ++ 32 :: four (chk (headL n ws)) from by simp [lineT]]; rfl, S13.out.bel⟩
  · have HR : Hid (wrRes n ws = .tuple #[.string ⟨#[]⟩, .int .i64 (lineErr n ws)]) := by unfold Hid wrRes; rw [if_neg h0]
    have h1 : (lineErr n ws != 0) = true := by rw [bne_iff_ne]; exact h0
    have HC := Lib.hid C
    clear C h0
    go_enter Tryz.func31, Tryz.ntmps31
    go_wp2_with fail
    refine HC.out.mono ?_
    rintro e w1 ⟨rfl, hb⟩
    have HB : Hid (Below w.heap.size w w1) := (below_alloc1 _ _).trans (hb.mono (by simp))
    clear HC hb
    go_wp2_with fail
    go_ret2
    exact ⟨by rw [HR.out]; rfl, HB.out⟩
end Go.Proofs.YtmfhpddeclggfaaGreatDoor
namespace Go.Proofs.YtmfhpddeclggfaaGreatDoor
open Go.RowKit
theorem sWithout (s : ByteArray) (w : World) (h4 : 4 ≤ s.size) (hs : s.size ≤ maxLen) :
    Calls Tryz.prog 94 #[.string s] w fun e w' => e = .returned (.string (s.extract 0 (s.size - 4))) ∧ w = w' := by
  unfold maxLen at hs
  have hw : Int.toNat ((s.size : Int) - 4) = s.size - 4 := by omega
  go_enter Tryz.func94, Tryz.ntmps94
  go_wp2
  go_ret
  exact ⟨rfl, rfl⟩
/-- The parts of a text at its blanks, at most 42 of them. -/
def partsOf (b : ByteArray) : List ByteArray := Lib.splitB ⟨#[32]⟩ 0 (min 42 (b.size + 1) - 1) b
theorem partsOf_pos (b : ByteArray) : 1 ≤ (partsOf b).length := by
  unfold partsOf
  cases (min 42 (b.size + 1) - 1) with
  | zero => simp [Lib.splitB]
  | succ k => unfold Lib.splitB; split <;> simp
theorem cellsOf_at (l : List ByteArray) (N j : Nat) (h : j < l.length) : (Lib.cellsOf l N)[j]? = some (.string (l.getD j ByteArray.empty)) := by
  unfold Lib.cellsOf
  rw [List.getElem?_toArray, List.getElem?_append_left (by simpa using h), List.getElem?_map, List.getElem?_eq_getElem h, List.getD, List.getElem?_eq_getElem h]
  rfl
theorem sSplitN (b : ByteArray) (w : World) (hs : b.size ≤ 1000000) (he : Env w) :
    Calls Tryz.prog 132 #[.string b, .string ⟨#[32]⟩, .int .i64 42] w fun e w' => e = .returned (.slice (some ⟨w.heap.size, 0, none⟩) (partsOf b).length (min 42 (b.size + 1))) ∧ Below w.heap.size w w' ∧ w.heap.size < w'.heap.size ∧ (partsOf b).length ≤ min 42 (b.size + 1) ∧
      ∀ j, j < (partsOf b).length → w'.cell? ⟨w.heap.size, j, none⟩ = some (.string ((partsOf b).getD j ByteArray.empty)) := by
  obtain ⟨m, hm⟩ := he.mx
  refine (Tryz.strings_SplitN b ⟨#[32]⟩ 42 m w (by omega) hm (by decide) (by decide) (by decide)).mono ?_
  rintro e w' ⟨rfl, rfl⟩
  refine ⟨rfl, below_alloc1 _ _, by simp, ?_, fun j hj => ?_⟩
  · have := Lib.splitB_length_le ⟨#[32]⟩ 0 (min 42 (b.size + 1) - 1) b
    unfold partsOf
    omega
  · have := cellsOf_at (partsOf b) (min 42 (b.size + 1)) j hj
    have h2 := cells_new w (Lib.cellsOf (partsOf b) (min 42 (b.size + 1))) 9 j _ (by rw [Array.getElem?_toList]; exact this)
    rw [show (⟨w.heap.size, 0, none⟩ : Addr).add j = ⟨w.heap.size, j, none⟩ from by simp [Addr.add]; omega] at h2
    exact h2

def bodyOf (s : ByteArray) : ByteArray := s.extract 0 (s.size - 4)
def trimmed (s : ByteArray) : ByteArray := ⟨(Lib.trimSuffix (bodyOf s).data.toList [32]).toArray⟩
def hasSp (s : ByteArray) : Bool := Lib.hasSuffix (bodyOf s).data.toList [32]
def mkOk (l : List UInt8) : Bool := Lib.hasPrefix l [64] && (rdInt (mk64 l)).isSome
def mkN (l : List UInt8) : Int := (rdInt (mk64 l)).getD 0
def partN (s : ByteArray) (j : Nat) : ByteArray := (partsOf (trimmed s)).getD j ByteArray.empty
def splitOk (s : ByteArray) : Bool := decide (4 ≤ s.size) && (hasSp s && (decide (2 ≤ (partsOf (trimmed s)).length) && mkOk (partN s 0).data.toList))
def lineN (s : ByteArray) : Int := mkN (partN s 0).data.toList
def lineWs (s : ByteArray) : List ByteArray := (partsOf (trimmed s)).drop 2
theorem trimmed_size (s : ByteArray) : (trimmed s).size ≤ s.size := by
  have h : (trimmed s).size = (Lib.trimSuffix (bodyOf s).data.toList [32]).length := by simp [trimmed, ByteArray.size]
  have h2 : (bodyOf s).data.toList.length ≤ s.size := by
    have : (bodyOf s).data.toList.length = (bodyOf s).size := by simp
    rw [this, bodyOf, ByteArray.size_extract]; omega
  rw [h]
  unfold Lib.trimSuffix
  split
  · rw [List.length_take]; omega
  · exact h2
theorem splitB_size (sep : ByteArray) (save : Nat) : ∀ (k : Nat) (s : ByteArray), ∀ p ∈ Lib.splitB sep save k s, p.size ≤ s.size
  | 0, s => by simp [Lib.splitB]
  | k + 1, s => by
    unfold Lib.splitB
    split
    · simp
    · intro p hp
      rcases List.mem_cons.1 hp with h | h
      · rw [h, ByteArray.size_extract]; omega
      · have := splitB_size sep save k _ p h
        rw [ByteArray.size_extract] at this; omega
theorem partN_size (s : ByteArray) (j : Nat) : (partN s j).size ≤ s.size := by
  unfold partN
  rw [List.getD]
  cases h : (partsOf (trimmed s))[j]? with
  | none => simp
  | some p => exact Nat.le_trans (splitB_size _ _ _ _ p (List.mem_of_getElem? h)) (trimmed_size s)
end Go.Proofs.YtmfhpddeclggfaaGreatDoor
namespace Go.Proofs.YtmfhpddeclggfaaGreatDoor
open Go.RowKit
theorem setCell2_far (w : World) (b o1 o2 b2 o : Nat) (x y : Value) (h : b ≠ b2) : ((w.setCell ⟨b, o1, none⟩ x).setCell ⟨b, o2, none⟩ y).cell? ⟨b2, o, none⟩ = w.cell? ⟨b2, o, none⟩ :=
  (World.cell?_setCell_other (w.setCell ⟨b, o1, none⟩ x) ⟨b, o2, none⟩ ⟨b2, o, none⟩ y (fun e => h (congrArg Addr.block e))).trans (World.cell?_setCell_other w ⟨b, o1, none⟩ ⟨b2, o, none⟩ x (fun e => h (congrArg Addr.block e)))
theorem sCutSp (b : ByteArray) (w : World) (hs : b.size ≤ 1000000) :
    Calls Tryz.prog 131 #[.string b, .string ⟨#[32]⟩] w fun e w' => e = .returned (.tuple #[.string ⟨(Lib.trimSuffix b.data.toList [32]).toArray⟩, .bool (Lib.hasSuffix b.data.toList [32])]) ∧ w = w' :=
  (Tryz.strings_CutSuffix b ⟨#[32]⟩ w (by omega)).mono fun _ _ ⟨h1, h2⟩ => ⟨h1, h2.symm⟩
/-- What a split of the parts leaves. -/
def PartsP (PS : List ByteArray) (W : World) (e : Ending) (w' : World) : Prop := ∃ (k cap : Nat), k = PS.length ∧ k ≤ cap ∧ cap ≤ 42 ∧ e = .returned (.slice (some ⟨W.heap.size, 0, none⟩) k cap) ∧ Below W.heap.size W w' ∧ W.heap.size < w'.heap.size ∧
      ∀ j, j < PS.length → w'.cell? ⟨W.heap.size, j, none⟩ = some (.string (PS.getD j ByteArray.empty))
theorem sSplitP (b : ByteArray) (w : World) (hs : b.size ≤ 1000000) (he : Env w) :
    Calls Tryz.prog 132 #[.string b, .string ⟨#[32]⟩, .int .i64 42] w (PartsP (partsOf b) w) :=
  (sSplitN b w hs he).mono fun _ _ ⟨h1, h2, h3, h4, h5⟩ => ⟨_, _, rfl, h4, Nat.min_le_left _ _, h1, h2, h3, h5⟩
def zeroLine : Value := .agg #[.int .i64 0, .slice none 0 0]
set_option maxRecDepth 100000 in
set_option maxHeartbeats 1000000 in
theorem split_short (s : ByteArray) (w : World) (h4 : s.size < 4) :
    Calls Tryz.prog 93 #[.string s] w fun e w' => Below w.heap.size w w' ∧ e = .returned (.tuple #[.agg #[.int .i64 0, .slice none 0 0], .bool false]) := by
  have hlt : ((s.size : Int) < 4) := by omega
  clear h4
  go_enter Tryz.func93, Tryz.ntmps93
  go_wp2_with fail
  refine bodyPost_ret (v := .tuple #[.agg #[.int .i64 0, .slice none 0 0], .bool false]) (by simp [results, Tryz.results93, go_sem]) rfl ⟨below_alloc1 _ _, rfl⟩
set_option maxRecDepth 100000 in
set_option maxHeartbeats 1000000 in
theorem split_nosp (s Bd T : ByteArray) (w : World) (hlt : ¬ ((s.size : Int) < 4))
    (C1 : Hid (Calls Tryz.prog 94 #[.string s] (w.alloc (.cells #[.int .i64 0, .slice none 0 0] 39)) fun e w' => e = .returned (.string Bd) ∧ w.alloc (.cells #[.int .i64 0, .slice none 0 0] 39) = w'))
    (C2 : Hid (Calls Tryz.prog 131 #[.string Bd, .string ⟨#[32]⟩] (w.alloc (.cells #[.int .i64 0, .slice none 0 0] 39)) fun e w' => e = .returned (.tuple #[.string T, .bool false]) ∧ w.alloc (.cells #[.int .i64 0, .slice none 0 0] 39) = w')) :
    Calls Tryz.prog 93 #[.string s] w fun e w' => Below w.heap.size w w' ∧ e = .returned (.tuple #[.agg #[.int .i64 0, .slice none 0 0], .bool false]) := by
  go_enter Tryz.func93, Tryz.ntmps93
  go_wp2_with fail
  refine C1.out.mono ?_
  rintro e w' ⟨rfl, rfl⟩
  go_wp2_with fail
  refine C2.out.mono ?_
  rintro e w' ⟨rfl, rfl⟩
  go_wp2_with fail
  refine bodyPost_ret (v := .tuple #[.agg #[.int .i64 0, .slice none 0 0], .bool false]) (by simp [results, Tryz.results93, go_sem]) rfl ⟨below_alloc1 _ _, rfl⟩
/-- A fresh cell of a line, after calls. -/
structure ZC (w W : World) : Prop where
  c0 : W.cell? ⟨w.heap.size, 0, none⟩ = some (.int .i64 0)
  c1 : W.cell? ⟨w.heap.size, 1, none⟩ = some (.slice none 0 0)
  f0 : W.frozen? ⟨w.heap.size, 0, none⟩ = false
  f1 : W.frozen? ⟨w.heap.size, 1, none⟩ = false
  bel : Below w.heap.size w W
  lt : w.heap.size < W.heap.size
theorem ZC.mk0 (w : World) : ZC w (w.alloc (.cells #[.int .i64 0, .slice none 0 0] 39)) :=
  ⟨by simp, by simp, frozen_new w _ _ 0, frozen_new w _ _ 1, below_alloc1 _ _, by simp⟩
theorem ZC.next {w W W' : World} (h : ZC w W) (hb : Below W.heap.size W W') : ZC w W' := by
  refine ⟨?_, ?_, ?_, ?_, h.bel.trans (hb.mono (Nat.le_of_lt h.lt)), by have := hb.size; have := h.lt; omega⟩
  · rw [hb.cell (p := ⟨w.heap.size, 0, none⟩) h.lt]; exact h.c0
  · rw [hb.cell (p := ⟨w.heap.size, 1, none⟩) h.lt]; exact h.c1
  · rw [hb.frozen (p := ⟨w.heap.size, 0, none⟩) h.lt]; exact h.f0
  · rw [hb.frozen (p := ⟨w.heap.size, 1, none⟩) h.lt]; exact h.f1
theorem ZC.set {w W : World} (h : ZC w W) (x y : Value) : Below w.heap.size w ((W.setCell ⟨w.heap.size, 0, none⟩ x).setCell ⟨w.heap.size, 1, none⟩ y) :=
  (h.bel.setCell (p := ⟨w.heap.size, 0, none⟩) (Nat.le_refl _) _).setCell (p := ⟨w.heap.size, 1, none⟩) (Nat.le_refl _) _
set_option maxRecDepth 100000 in
set_option maxHeartbeats 1000000 in
theorem split_few (s Bd T : ByteArray) (PS : List ByteArray) (w : World) (hlt : ¬ ((s.size : Int) < 4)) (hl : Hid (PS.length < 2))
    (C1 : Hid (Calls Tryz.prog 94 #[.string s] (w.alloc (.cells #[.int .i64 0, .slice none 0 0] 39)) fun e w' => e = .returned (.string Bd) ∧ w.alloc (.cells #[.int .i64 0, .slice none 0 0] 39) = w'))
    (C2 : Hid (Calls Tryz.prog 131 #[.string Bd, .string ⟨#[32]⟩] (w.alloc (.cells #[.int .i64 0, .slice none 0 0] 39)) fun e w' => e = .returned (.tuple #[.string T, .bool true]) ∧ w.alloc (.cells #[.int .i64 0, .slice none 0 0] 39) = w'))
    (C3 : Hid (Calls Tryz.prog 132 #[.string T, .string ⟨#[32]⟩, .int .i64 42] (w.alloc (.cells #[.int .i64 0, .slice none 0 0] 39)) (PartsP PS (w.alloc (.cells #[.int .i64 0, .slice none 0 0] 39))))) :
    Calls Tryz.prog 93 #[.string s] w fun e w' => Below w.heap.size w w' ∧ e = .returned (.tuple #[.agg #[.int .i64 0, .slice none 0 0], .bool false]) := by
  go_enter Tryz.func93, Tryz.ntmps93
  go_wp2_with fail
  refine C1.out.mono ?_
  rintro e w' ⟨rfl, rfl⟩
  go_wp2_with fail
  refine C2.out.mono ?_
  rintro e w' ⟨rfl, rfl⟩
  go_wp2_with fail
  refine C3.out.mono ?_
  rintro e w1 ⟨k, cap, hk, hkc, hc42, rfl, hb, hsz, hcell⟩
  have hl2 : ((k : Nat) : Int) < 2 := by have := hl.out; omega
  have z := (ZC.mk0 w).next hb
  have Z := Lib.hid z
  have c0 := z.c0
  have c1 := z.c1
  have f0 := z.f0
  have f1 := z.f1
  clear z hb hcell hk
  rw [World.size_alloc] at *
  go_wp2_with fail
  refine bodyPost_ret (v := .tuple #[.agg #[.int .i64 0, .slice none 0 0], .bool false]) (by simp [results, Tryz.results93, go_sem, c0, c1]) rfl ⟨Z.out.set _ _, rfl⟩
def PFrom (B : Nat) (p : Option Addr) : Prop := ∀ a, p = some a → B ≤ a.block
/-- What the splitting of a line leaves. -/
def SplP (w : World) (N : Int) (ok : Bool) (ws : List ByteArray) (e : Ending) (w' : World) : Prop :=
  Below w.heap.size w w' ∧ ∃ (p : Option Addr) (k cap : Nat), e = .returned (.tuple #[.agg #[.int .i64 N, .slice p k cap], .bool ok]) ∧ k = ws.length ∧ PFrom w.heap.size p ∧ StrsAt w' p ws
set_option maxRecDepth 100000 in
set_option maxHeartbeats 1000000 in
theorem split_many (s Bd T : ByteArray) (PS : List ByteArray) (w : World) (hlt : ¬ ((s.size : Int) < 4)) (hl : Hid (2 ≤ PS.length)) (hP : Hid ((PS.getD 0 ByteArray.empty).size ≤ 1000000)) (he : Hid (Env w))
    (C1 : Hid (Calls Tryz.prog 94 #[.string s] (w.alloc (.cells #[.int .i64 0, .slice none 0 0] 39)) fun e w' => e = .returned (.string Bd) ∧ w.alloc (.cells #[.int .i64 0, .slice none 0 0] 39) = w'))
    (C2 : Hid (Calls Tryz.prog 131 #[.string Bd, .string ⟨#[32]⟩] (w.alloc (.cells #[.int .i64 0, .slice none 0 0] 39)) fun e w' => e = .returned (.tuple #[.string T, .bool true]) ∧ w.alloc (.cells #[.int .i64 0, .slice none 0 0] 39) = w'))
    (C3 : Hid (Calls Tryz.prog 132 #[.string T, .string ⟨#[32]⟩, .int .i64 42] (w.alloc (.cells #[.int .i64 0, .slice none 0 0] 39)) (PartsP PS (w.alloc (.cells #[.int .i64 0, .slice none 0 0] 39))))) :
    Calls Tryz.prog 93 #[.string s] w (SplP w (mkN (PS.getD 0 ByteArray.empty).data.toList) (mkOk (PS.getD 0 ByteArray.empty).data.toList) (PS.drop 2)) := by
  obtain ⟨P0, hP0⟩ : ∃ P0, PS.getD 0 ByteArray.empty = P0 := ⟨_, rfl⟩
  obtain ⟨N, hN⟩ : ∃ N, mkN P0.data.toList = N := ⟨_, rfl⟩
  obtain ⟨ok, hok⟩ : ∃ ok, mkOk P0.data.toList = ok := ⟨_, rfl⟩
  have hsz0 := hP.out
  rw [hP0] at hsz0
  rw [hP0, hN, hok]
  have HS := Lib.hid hsz0
  have HP0 := Lib.hid hP0
  have HN := Lib.hid hN
  have HO := Lib.hid hok
  clear hsz0 hP0 hN hok hP
  go_enter Tryz.func93, Tryz.ntmps93
  go_wp2_with fail
  refine C1.out.mono ?_
  rintro e w' ⟨rfl, rfl⟩
  go_wp2_with fail
  refine C2.out.mono ?_
  rintro e w' ⟨rfl, rfl⟩
  go_wp2_with fail
  refine C3.out.mono ?_
  rintro e w1 ⟨k, cap, hk, hkc, hc42, rfl, hb, hsz, hcell⟩
  have hl2 : ¬ ((k : Nat) : Int) < 2 := by have := hl.out; omega
  have hk2 : 2 ≤ k := by have := hl.out; omega
  have z := (ZC.mk0 w).next hb
  have Z := Lib.hid z
  have hp0 := hcell 0 (by have := hl.out; omega)
  rw [HP0.out] at hp0
  have ev := he.out.next z.bel
  have c4 := sMarked P0 w1 HS.out ev
  unfold mkRes at c4
  change Calls Tryz.prog 99 #[.string P0] w1 fun e w' => e = .returned (.tuple #[.int .i64 (mkN P0.data.toList), .bool (mkOk P0.data.toList)]) ∧ Below w1.heap.size w1 w' at c4
  rw [HN.out, HO.out] at c4
  have C4 := Lib.hid c4
  have HC := Lib.hid hcell
  have HS1 := Lib.hid hsz
  have HK := Lib.hid hk
  clear z hb hcell hk c4 ev hsz
  rw [World.size_alloc] at *
  go_wp2_with fail
  refine C4.out.mono ?_
  rintro e w2 ⟨rfl, hb2⟩
  have z := Z.out.next hb2
  have Z2 := Lib.hid z
  have c0 := z.c0
  have c1 := z.c1
  have f0 := z.f0
  have f1 := z.f1
  have HC2 : Hid (w.heap.size + 1 < w2.heap.size ∧ ∀ j, j < PS.length → w2.cell? ⟨w.heap.size + 1, j, none⟩ = some (.string (PS.getD j ByteArray.empty))) := by
    have h1 := HS1.out
    have h2 := hb2.size
    refine ⟨by omega, fun j hj => ?_⟩
    have := HC.out j hj
    rw [hb2.cell (p := ⟨w.heap.size + 1, j, none⟩) (by show w.heap.size + 1 < _; omega)]
    exact this
  clear z hb2 HC HS1
  go_wp2_with fail
  · have hk3 : k - 2 = 0 ∧ cap - 2 = 0 := by omega
    refine bodyPost_ret (v := .tuple #[.agg #[.int .i64 N, .slice (some ⟨w.heap.size + 1, 0, none⟩) (k - 2) 0], .bool ok]) (by simp [results, Tryz.results93, go_sem, c0, c1]) rfl ⟨Z2.out.set _ _, _, _, _, rfl, by rw [List.length_drop, HK.out], by rintro a ⟨⟩; exact Nat.le_succ _, ?_⟩
    exact Or.inl (List.drop_eq_nil_of_le (by have := HK.out; omega))
  · refine bodyPost_ret (v := .tuple #[.agg #[.int .i64 N, .slice (some ⟨w.heap.size + 1, 2, none⟩) (k - 2) (cap - 2)], .bool ok]) (by simp [results, Tryz.results93, go_sem, c0, c1]) rfl ⟨Z2.out.set _ _, _, _, _, rfl, by rw [List.length_drop, HK.out], by rintro a ⟨⟩; exact Nat.le_succ _, ?_⟩
    by_cases h : 2 < PS.length
    · refine Or.inr ⟨w.heap.size + 1, 2, rfl, by simpa using HC2.out.1, fun j hj => ?_⟩
      rw [List.length_drop] at hj
      rw [setCell2_far _ _ _ _ _ _ _ _ (Nat.ne_of_lt (Nat.lt_succ_self _)), HC2.out.2 (2 + j) (by omega)]
      rw [List.getD, List.getD, List.getElem?_drop]
    · exact Or.inl (List.drop_eq_nil_of_le (by omega))
theorem SplP.use {w w' : World} {s : ByteArray} {N : Int} {ok : Bool} {ws : List ByteArray} {e : Ending} (h : SplP w N ok ws e w') (h1 : splitOk s = ok) (h2 : ok = true → N = lineN s ∧ ws = lineWs s) :
    Below w.heap.size w w' ∧ ∃ (n : Int) (p : Option Addr) (k cap : Nat), e = .returned (.tuple #[.agg #[.int .i64 n, .slice p k cap], .bool (splitOk s)]) ∧ (splitOk s = true → n = lineN s ∧ k = (lineWs s).length ∧ PFrom w.heap.size p ∧ StrsAt w' p (lineWs s)) := by
  obtain ⟨hb, p, k, cap, he, hk, hp, hs⟩ := h
  refine ⟨hb, N, p, k, cap, by rw [h1]; exact he, fun h => ?_⟩
  obtain ⟨h3, h4⟩ := h2 (h1 ▸ h)
  subst h4
  exact ⟨h3, hk, hp, hs⟩
theorem sSplit (s : ByteArray) (w : World) (hs : s.size ≤ 1000000) (he : Env w) :
    Calls Tryz.prog 93 #[.string s] w fun e w' => Below w.heap.size w w' ∧ ∃ (n : Int) (p : Option Addr) (k cap : Nat), e = .returned (.tuple #[.agg #[.int .i64 n, .slice p k cap], .bool (splitOk s)]) ∧ (splitOk s = true → n = lineN s ∧ k = (lineWs s).length ∧ PFrom w.heap.size p ∧ StrsAt w' p (lineWs s)) := by
  by_cases h4 : 4 ≤ s.size
  · have hlt : ¬ ((s.size : Int) < 4) := by omega
    have hbs : (bodyOf s).size ≤ 1000000 := by rw [bodyOf, ByteArray.size_extract]; omega
    have c1 := sWithout s (w.alloc (.cells #[.int .i64 0, .slice none 0 0] 39)) h4 (by unfold maxLen; omega)
    have c2 := sCutSp (bodyOf s) (w.alloc (.cells #[.int .i64 0, .slice none 0 0] 39)) hbs
    have c3 := sSplitP (trimmed s) (w.alloc (.cells #[.int .i64 0, .slice none 0 0] 39)) (by have := trimmed_size s; omega) (he.next (below_alloc1 _ _))
    cases hsp : hasSp s with
    | false =>
      have hr : splitOk s = false := by unfold splitOk; simp [hsp]
      unfold hasSp at hsp
      rw [hsp] at c2
      refine (split_nosp s (bodyOf s) (trimmed s) w hlt (Lib.hid c1) (Lib.hid c2)).mono ?_
      rintro e w' ⟨hb, rfl⟩
      exact ⟨hb, 0, none, 0, 0, by rw [hr], fun h => by rw [hr] at h; cases h⟩
    | true =>
      have hsp' := hsp
      unfold hasSp at hsp
      rw [hsp] at c2
      by_cases h2 : 2 ≤ (partsOf (trimmed s)).length
      · refine (split_many s (bodyOf s) (trimmed s) (partsOf (trimmed s)) w hlt (Lib.hid h2) (Lib.hid (Nat.le_trans (partN_size s 0) hs)) (Lib.hid he) (Lib.hid c1) (Lib.hid c2) (Lib.hid c3)).mono ?_
        intro e w' h
        refine h.use (by unfold splitOk partN; simp [h4, hsp', h2]) fun _ => ⟨?_, ?_⟩
        · simp only [lineN, partN]
        · simp only [lineWs]
      · have hr : splitOk s = false := by unfold splitOk; simp [h2]
        refine (split_few s (bodyOf s) (trimmed s) (partsOf (trimmed s)) w hlt (Lib.hid (Nat.lt_of_not_le h2)) (Lib.hid c1) (Lib.hid c2) (Lib.hid c3)).mono ?_
        rintro e w' ⟨hb, rfl⟩
        exact ⟨hb, 0, none, 0, 0, by rw [hr], fun h => by rw [hr] at h; cases h⟩
  · have hr : splitOk s = false := by unfold splitOk; simp [h4]
    refine (split_short s w (by omega)).mono ?_
    rintro e w' ⟨hb, rfl⟩
    exact ⟨hb, 0, none, 0, 0, by rw [hr], fun h => by rw [hr] at h; cases h⟩
end Go.Proofs.YtmfhpddeclggfaaGreatDoor
namespace Go.Proofs.YtmfhpddeclggfaaGreatDoor
open Go.RowKit
/-- What a line of text is written again as. -/
def again (s : ByteArray) : ByteArray := bs (lineT (lineN s) (lineWs s))
def headOf (s : ByteArray) : ByteArray := s.extract 0 (s.size - 4)
def sameHead (s : ByteArray) : Bool := (headOf (again s)).toList == (headOf s).toList
def readErr (s : ByteArray) : Int :=
  if splitOk s = false then 7 else if lineErr (lineN s) (lineWs s) ≠ 0 then 7 else if sameHead s = false then 7 else if ((again s).toList == s.toList) = true then 0 else 11
/-- What reading a text leaves: the error, and the line if there is none. -/
def RdP (w : World) (N : Int) (ws : List ByteArray) (err : Int) (e : Ending) (w' : World) : Prop :=
  Below w.heap.size w w' ∧ ((err ≠ 0 ∧ e = .returned (.tuple #[.agg #[.int .i64 0, .slice none 0 0], .int .i64 err])) ∨ (err = 0 ∧ ∃ (p : Option Addr) (cap : Nat), e = .returned (.tuple #[.agg #[.int .i64 N, .slice p ws.length cap], .int .i64 0]) ∧ PFrom w.heap.size p ∧ StrsAt w' p ws))
set_option maxRecDepth 100000 in
set_option maxHeartbeats 1000000 in
theorem read_bad (s : ByteArray) (w : World) (N : Int) (ws : List ByteArray)
    (CS : Hid (Calls Tryz.prog 93 #[.string s] (w.alloc (.cells #[.int .i64 0, .slice none 0 0] 39)) fun e w' => Below (w.alloc (.cells #[.int .i64 0, .slice none 0 0] 39)).heap.size (w.alloc (.cells #[.int .i64 0, .slice none 0 0] 39)) w' ∧ ∃ (n : Int) (p : Option Addr) (k cap : Nat), e = .returned (.tuple #[.agg #[.int .i64 n, .slice p k cap], .bool false]))) :
    Calls Tryz.prog 33 #[.string s] w (RdP w N ws 7) := by
  go_enter Tryz.func33, Tryz.ntmps33
  go_wp2_with fail
  refine CS.out.mono ?_
  rintro e w1 ⟨hb, n, p, k, cap, rfl⟩
  have z := ((ZC.mk0 w).next hb).next (below_alloc1 w1 (.cells #[.int .i64 n, .slice p k cap] 39))
  have Z := Lib.hid z
  have c0 := z.c0
  have c1 := z.c1
  have f0 := z.f0
  have f1 := z.f1
  clear z hb
  go_wp2_with fail
  refine bodyPost_ret (v := .tuple #[.agg #[.int .i64 0, .slice none 0 0], .int .i64 7]) (by simp [results, Tryz.results33, go_sem, c0, c1]) rfl ⟨Z.out.set _ _, Or.inl ⟨by decide, rfl⟩⟩
set_option maxRecDepth 100000 in
set_option maxHeartbeats 1000000 in
theorem read_nowrite (s : ByteArray) (w : World) (N : Int) (ws : List ByteArray) (err : Int) (h0 : (err != 0) = true) (he : Hid (Env w))
    (CS : Hid (Calls Tryz.prog 93 #[.string s] (w.alloc (.cells #[.int .i64 0, .slice none 0 0] 39)) fun e w' => Below (w.alloc (.cells #[.int .i64 0, .slice none 0 0] 39)).heap.size (w.alloc (.cells #[.int .i64 0, .slice none 0 0] 39)) w' ∧ ∃ (p : Option Addr) (cap : Nat), e = .returned (.tuple #[.agg #[.int .i64 N, .slice p ws.length cap], .bool true]) ∧ StrsAt w' p ws))
    (CW : Hid (∀ (p : Option Addr) (cap : Nat) (W : World), StrsAt W p ws → Env W → Calls Tryz.prog 31 #[.agg #[.int .i64 N, .slice p ws.length cap]] W fun e w' => e = .returned (.tuple #[.string ⟨#[]⟩, .int .i64 err]) ∧ Below W.heap.size W w')) :
    Calls Tryz.prog 33 #[.string s] w (RdP w N ws 7) := by
  go_enter Tryz.func33, Tryz.ntmps33
  go_wp2_with fail
  refine CS.out.mono ?_
  rintro e w1 ⟨hb, p, cap, rfl, hst⟩
  have z := ((ZC.mk0 w).next hb).next (below_alloc1 w1 (.cells #[.int .i64 N, .slice p ws.length cap] 39))
  have Z := Lib.hid z
  have CW1 := Lib.hid (CW.out p cap _ (hst.below (below_alloc1 w1 (.cells #[.int .i64 N, .slice p ws.length cap] 39))) (he.out.next z.bel))
  clear z hb hst
  go_wp2_with fail
  refine CW1.out.mono ?_
  rintro e w3 ⟨rfl, hb3⟩
  have z := Z.out.next hb3
  have Z3 := Lib.hid z
  have c0 := z.c0
  have c1 := z.c1
  have f0 := z.f0
  have f1 := z.f1
  clear z hb3
  go_wp2_with fail
  refine bodyPost_ret (v := .tuple #[.agg #[.int .i64 0, .slice none 0 0], .int .i64 7]) (by simp [results, Tryz.results33, go_sem, c0, c1]) rfl ⟨Z3.out.set _ _, Or.inl ⟨by decide, rfl⟩⟩
set_option maxRecDepth 100000 in
set_option maxHeartbeats 1000000 in
theorem read_wrote (s T Th Sh : ByteArray) (w : World) (N : Int) (ws : List ByteArray) (he : Hid (Env w)) (sh same : Bool) (hsh : (Th.toList == Sh.toList) = sh) (hsame : (T.toList == s.toList) = same)
    (CS : Hid (Calls Tryz.prog 93 #[.string s] (w.alloc (.cells #[.int .i64 0, .slice none 0 0] 39)) fun e w' => Below (w.alloc (.cells #[.int .i64 0, .slice none 0 0] 39)).heap.size (w.alloc (.cells #[.int .i64 0, .slice none 0 0] 39)) w' ∧ ∃ (p : Option Addr) (cap : Nat), e = .returned (.tuple #[.agg #[.int .i64 N, .slice p ws.length cap], .bool true]) ∧ PFrom (w.heap.size + 1) p ∧ StrsAt w' p ws))
    (CW : Hid (∀ (p : Option Addr) (cap : Nat) (W : World), StrsAt W p ws → Env W → Calls Tryz.prog 31 #[.agg #[.int .i64 N, .slice p ws.length cap]] W fun e w' => e = .returned (.tuple #[.string T, .int .i64 0]) ∧ Below W.heap.size W w'))
    (CT : Hid (∀ W : World, Calls Tryz.prog 94 #[.string T] W fun e w' => e = .returned (.string Th) ∧ W = w'))
    (CH : Hid (∀ W : World, Calls Tryz.prog 94 #[.string s] W fun e w' => e = .returned (.string Sh) ∧ W = w')) :
    Calls Tryz.prog 33 #[.string s] w (RdP w N ws (if sh = false then 7 else if same = true then 0 else 11)) := by
  obtain ⟨err, hErr⟩ : ∃ err : Int, (if sh = false then 7 else if same = true then 0 else 11) = err := ⟨_, rfl⟩
  rw [hErr]
  have HErr := Lib.hid hErr
  have HSH := Lib.hid hsh
  have HSA := Lib.hid hsame
  clear hsh hsame hErr
  go_enter Tryz.func33, Tryz.ntmps33
  go_wp2_with fail
  refine CS.out.mono ?_
  rintro e w1 ⟨hb, p, cap, rfl, hpf, hst⟩
  have HPF := Lib.hid hpf
  have z := ((ZC.mk0 w).next hb).next (below_alloc1 w1 (.cells #[.int .i64 N, .slice p ws.length cap] 39))
  have Z := Lib.hid z
  have hst1 := hst.below (below_alloc1 w1 (.cells #[.int .i64 N, .slice p ws.length cap] 39))
  have ST := Lib.hid hst1
  have CW1 := Lib.hid (CW.out p cap _ hst1 (he.out.next z.bel))
  have hlt : w.heap.size < w1.heap.size := by have := hb.size; rw [World.size_alloc] at this; omega
  have HLT := Lib.hid hlt
  clear z hb hst hst1 hlt hpf
  go_wp2_with fail
  refine CW1.out.mono ?_
  rintro e w3 ⟨rfl, hb3⟩
  have z := Z.out.next hb3
  have Z3 := Lib.hid z
  have ST3 := Lib.hid (ST.out.below hb3)
  have c0 := z.c0
  have c1 := z.c1
  have f0 := z.f0
  have f1 := z.f1
  have d0 : w3.cell? ⟨w1.heap.size, 0, none⟩ = some (.int .i64 N) := by rw [hb3.cell (p := ⟨w1.heap.size, 0, none⟩) (by show w1.heap.size < _; simp)]; simp
  have d1 : w3.cell? ⟨w1.heap.size, 1, none⟩ = some (.slice p ws.length cap) := by rw [hb3.cell (p := ⟨w1.heap.size, 1, none⟩) (by show w1.heap.size < _; simp)]; simp
  clear z hb3
  go_wp2_with fail
  refine (CT.out _).mono ?_
  rintro e w' ⟨rfl, rfl⟩
  go_wp2_with fail
  refine (CH.out _).mono ?_
  rintro e w' ⟨rfl, rfl⟩
  have hsh := HSH.out
  have hsame := HSA.out
  cases sh with
  | false =>
    obtain rfl : err = 7 := by rw [← HErr.out]; rfl
    go_wp2_with fail
    refine bodyPost_ret (v := .tuple #[.agg #[.int .i64 0, .slice none 0 0], .int .i64 7]) (by simp [results, Tryz.results33, go_sem, c0, c1]) rfl ⟨Z3.out.set _ _, Or.inl ⟨by decide, rfl⟩⟩
  | true =>
    cases same with
    | true =>
      obtain rfl : err = 0 := by rw [← HErr.out]; rfl
      go_wp2_with fail
      refine bodyPost_ret (v := .tuple #[.agg #[.int .i64 N, .slice p ws.length cap], .int .i64 0]) (by simp [results, Tryz.results33, go_sem, c0, c1]) rfl ⟨Z3.out.set _ _, Or.inr ⟨rfl, p, cap, rfl, fun a ha => Nat.le_of_succ_le (HPF.out a ha), ?_⟩⟩
      rcases ST3.out with h | ⟨b, o, h1, h2, h3⟩
      · exact Or.inl h
      · have hbb := HPF.out _ h1
        refine Or.inr ⟨b, o, h1, by simpa using h2, fun j hj => ?_⟩
        rw [setCell2_far _ _ _ _ _ _ _ _ (Nat.ne_of_lt hbb)]
        exact h3 j hj
    | false =>
      obtain rfl : err = 11 := by rw [← HErr.out]; rfl
      go_wp2_with fail
      refine bodyPost_ret (v := .tuple #[.agg #[.int .i64 0, .slice none 0 0], .int .i64 11]) (by simp [results, Tryz.results33, go_sem, c0, c1]) rfl ⟨Z3.out.set _ _, Or.inl ⟨by decide, rfl⟩⟩
theorem lineT_len4 (n : Int) (ws : List ByteArray) : 4 ≤ (bs (lineT n ws)).size := by
  rw [bs_size]
  unfold lineT
  have := four_len (chk (headL n ws)) (by have := chk_lt (headL n ws); omega)
  simp only [List.length_append]
  omega
theorem lineT_size {n : Int} {ws : List ByteArray} (h : lineErr n ws = 0) : (bs (lineT n ws)).size ≤ 6000 := by
  obtain ⟨h1, h2, h3, h4⟩ := lineErr_ok h
  have l1 := (itoa_len n (by omega) (by omega)).2
  have l2 := (itoa_len (ws.length : Int) (by omega) (by omega)).2
  have l3 := wordsL_len ws (wordsOk_size h4)
  have := four_len (chk (headL n ws)) (by have := chk_lt (headL n ws); omega)
  rw [bs_size]
  unfold lineT
  simp only [List.length_append, List.length_cons, List.length_nil, this]
  unfold headL
  simp only [List.length_append, List.length_cons, List.length_nil]
  omega
theorem lineWs_len (s : ByteArray) : (lineWs s).length ≤ 40 := by
  have h := Lib.splitB_length_le ⟨#[32]⟩ 0 (min 42 ((trimmed s).size + 1) - 1) (trimmed s)
  have h2 : (partsOf (trimmed s)).length ≤ min 42 ((trimmed s).size + 1) - 1 + 1 := h
  have h3 : (lineWs s).length = (partsOf (trimmed s)).length - 2 := List.length_drop
  omega
theorem lineWs_size (s : ByteArray) (j : Nat) : ((lineWs s).getD j ByteArray.empty).size ≤ s.size := by
  have h : (lineWs s).getD j ByteArray.empty = partN s (2 + j) := by
    unfold lineWs partN
    rw [List.getD, List.getD, List.getElem?_drop]
  rw [h]
  exact partN_size s _
theorem splitOk_four {s : ByteArray} (h : splitOk s = true) : 4 ≤ s.size := by
  unfold splitOk at h
  rw [Bool.and_eq_true] at h
  exact of_decide_eq_true h.1
/-- sheet.Read. -/
theorem sRead (s : ByteArray) (w : World) (hs : s.size ≤ 1000000) (he : Env w) : Calls Tryz.prog 33 #[.string s] w (RdP w (lineN s) (lineWs s) (readErr s)) := by
  have c := sSplit s (w.alloc (.cells #[.int .i64 0, .slice none 0 0] 39)) hs (he.next (below_alloc1 _ _))
  cases hok : splitOk s with
  | false =>
    have hr : readErr s = 7 := by unfold readErr; rw [if_pos hok]
    rw [hr]
    refine read_bad s w _ _ (Lib.hid (c.mono ?_))
    rintro e w' ⟨hb, n, p, k, cap, h, _⟩
    rw [hok] at h
    exact ⟨hb, n, p, k, cap, h⟩
  | true =>
    have hok' : ¬ splitOk s = false := by rw [hok]; decide
    have c' : Calls Tryz.prog 93 #[.string s] (w.alloc (.cells #[.int .i64 0, .slice none 0 0] 39)) fun e w' => Below (w.alloc (.cells #[.int .i64 0, .slice none 0 0] 39)).heap.size (w.alloc (.cells #[.int .i64 0, .slice none 0 0] 39)) w' ∧ ∃ (p : Option Addr) (cap : Nat), e = .returned (.tuple #[.agg #[.int .i64 (lineN s), .slice p (lineWs s).length cap], .bool true]) ∧ PFrom (w.heap.size + 1) p ∧ StrsAt w' p (lineWs s) := by
      refine c.mono ?_
      rintro e w' ⟨hb, n, p, k, cap, h, h2⟩
      obtain ⟨h3, h4, h5, h6⟩ := h2 hok
      rw [h3, h4, hok] at h
      rw [World.size_alloc] at h5
      exact ⟨hb, p, cap, h, h5, h6⟩
    have cw : ∀ (p : Option Addr) (cap : Nat) (W : World), StrsAt W p (lineWs s) → Env W → Calls Tryz.prog 31 #[.agg #[.int .i64 (lineN s), .slice p (lineWs s).length cap]] W fun e w' => e = .returned (wrRes (lineN s) (lineWs s)) ∧ Below W.heap.size W w' :=
      fun p cap W hp hE => sWrite (lineN s) p cap (lineWs s) W (by have := lineWs_len s; unfold maxLen; omega) (fun j => by have := lineWs_size s j; unfold maxLen; omega) hp hE
    by_cases h0 : lineErr (lineN s) (lineWs s) = 0
    · have hr : readErr s = (if sameHead s = false then 7 else if ((again s).toList == s.toList) = true then 0 else 11) := by
        unfold readErr
        rw [if_neg hok', if_neg (by rw [h0]; decide)]
      rw [hr]
      unfold wrRes at cw
      rw [if_pos h0] at cw
      have hT := lineT_len4 (lineN s) (lineWs s)
      have hT2 := lineT_size h0
      exact read_wrote s (again s) (headOf (again s)) (headOf s) w _ _ (Lib.hid he) (sameHead s) ((again s).toList == s.toList) rfl rfl (Lib.hid c') (Lib.hid cw)
        (Lib.hid fun W => sWithout (again s) W hT (by unfold maxLen; unfold again; omega)) (Lib.hid fun W => sWithout s W (splitOk_four hok) (by unfold maxLen; omega))
    · have hr : readErr s = 7 := by
        unfold readErr
        rw [if_neg hok', if_pos h0]
      rw [hr]
      unfold wrRes at cw
      rw [if_neg h0] at cw
      refine read_nowrite s w _ _ (lineErr (lineN s) (lineWs s)) (bne_iff_ne.2 h0) (Lib.hid he) (Lib.hid (c'.mono ?_)) (Lib.hid cw)
      rintro e w' ⟨hb, p, cap, h, _, h6⟩
      exact ⟨hb, p, cap, h, h6⟩
end Go.Proofs.YtmfhpddeclggfaaGreatDoor
