import Derived.Test.YtmfhpddeclggfaaGreatDoorDigit
import Derived.WalkKit
import Derived.LoopTactic
import Derived.WalkSpells
import Derived.WalkLawsBesides
import Derived.Lib.Hide
import Derived.BigQuiet
import Derived.IntWalk
import Derived.Deep.DeepMust
import Derived.WalkSmall
import Derived.StillTailTactics
import Derived.Lib.SlBytesConst
import Derived.Deep.RegionLaw
import Derived.Deep.QuietTactic
namespace Go.Proofs.YtmfhpddeclggfaaGreatDoor
open Go.RowKit
/-- The bytes that j pairs of digits are. -/
def pfold (r : List UInt8) : Nat → Option (List UInt8)
  | 0 => some []
  | j + 1 => match pfold r j with
    | none => none
    | some b => if dgI (r.getD (2 * j) 0) < 0 ∨ dgI (r.getD (2 * j + 1) 0) < 0 then none
      else some (b ++ [UInt8.ofNat (16 * (dgI (r.getD (2 * j) 0)).toNat + (dgI (r.getD (2 * j + 1) 0)).toNat)])
theorem pfold_mono (r : List UInt8) (k n : Nat) (h : pfold r k = none) (hn : k ≤ n) : pfold r n = none := by
  induction n with
  | zero => rw [show (0 : Nat) = k by omega]; exact h
  | succ n ih =>
    by_cases e : k = n + 1
    · rw [← e]; exact h
    · rw [pfold, ih (by omega)]
def rdText (l : List UInt8) : Option (List UInt8) :=
  match l with
  | [] => none
  | c :: r => if c = 61 ∧ r.length % 2 = 0 ∧ r.length ≤ 100 then pfold r (r.length / 2) else none
def rtRes (o : Option (List UInt8)) : Value := match o with
  | some l => .tuple #[.string (bs l), .int .i64 0]
  | none => .tuple #[.string ⟨#[]⟩, .int .i64 7]
theorem iby (c : UInt8) (w : World) : Calls Tryz.prog 80 #[.string ⟨#[48, 49, 50, 51, 52, 53, 54, 55, 56, 57, 97, 98, 99, 100, 101, 102]⟩, .int .u8 (c.toNat : Int)] w fun e w' => e = .returned (.int .i64 (dgI c)) ∧ w = w' :=
  (Tryz.strings_IndexByte _ _ w).mono fun e w' ⟨h1, h2⟩ => ⟨by rw [h1]; simp [dgI, hexs], h2.symm⟩
theorem pair_fin : ∀ a : Fin 16, ∀ b : Fin 16, bits .or .i64 (wrap64 (((a.val : Nat) : Int) * 16)) ((b.val : Nat) : Int) % 256 = ((UInt8.ofNat (16 * a.val + b.val)).toNat : Int) := by decide +kernel
theorem pair_val (a b : UInt8) (ha : 0 ≤ dgI a) (hb : 0 ≤ dgI b) : bits .or .i64 (wrap64 (dgI a * 16)) (dgI b) % 256 = ((UInt8.ofNat (16 * (dgI a).toNat + (dgI b).toNat)).toNat : Int) := by
  rcases dgI_cases a with h | ⟨_, h1, _⟩
  · omega
  rcases dgI_cases b with h | ⟨_, h2, _⟩
  · omega
  have := pair_fin ⟨(dgI a).toNat, by omega⟩ ⟨(dgI b).toNat, by omega⟩
  simp only [Int.toNat_of_nonneg ha, Int.toNat_of_nonneg hb] at this
  exact this
set_option maxRecDepth 100000 in
set_option maxHeartbeats 1000000 in
theorem sReadText (r : List UInt8) (w : World) (he : r.length % 2 = 0) (hl : r.length ≤ 100) :
    Calls Tryz.prog 24 #[.string (bs (61 :: r))] w fun e w' => e = .returned (rtRes (pfold r (r.length / 2))) ∧ Below w.heap.size w w' := by
  have t1 : Lib.trimPrefix (bs (61 :: r)).data.toList (ByteArray.mk #[61]).data.toList = r := by simp [bs, Lib.trimPrefix, Lib.hasPrefix]
  have t2 : Lib.hasPrefix (bs (61 :: r)).data.toList (ByteArray.mk #[61]).data.toList = true := by simp [bs, Lib.hasPrefix]
  have T1 := Lib.hid t1
  have T2 := Lib.hid t2
  clear t1 t2
  obtain ⟨i0, hi, hz0, hz1, hz2⟩ := info_parts info5
  have HI := Lib.hid (And.intro hi (And.intro hz0 (And.intro hz1 hz2)))
  clear hi hz0 hz1 hz2
  have hsz : (bs r).size ≤ 100 := hl
  have e2 : ((bs r).size : Int) % 2 = 0 := by rw [bs_size]; omega
  go_enter Tryz.func24, Tryz.ntmps24
  go_wp2_with fail
  have C := Tryz.strings_CutPrefix (bs (61 :: r)) ⟨#[61]⟩ w
  rw [T1.out, T2.out] at C
  refine C.mono ?_
  rintro e w' ⟨rfl, rfl⟩
  clear C
  rw [show (ByteArray.mk r.toArray) = bs r from rfl]
  go_wp2_with fail
  go_loopw [6, 7] (fun v i wr => ∃ (j : Nat) (b : List UInt8), 2 * j ≤ r.length ∧ i = .int .i64 (2 * (j : Int)) ∧ Hid (OwnM wr w'.heap.size 5 v b.length (Lib.byteCells b)) ∧ Hid (pfold r j = some b ∧ b.length = j) ∧ Hid (Below w'.heap.size w' wr)) (fun _ i _ => r.length - (intOf i).toNat)
  case atStart => exact ⟨0, [], Nat.zero_le _, rfl, OwnM.own (World.ownsRow_nil _ _ _ _), ⟨rfl, rfl⟩, Below.refl _ _⟩
  case round =>
    obtain ⟨j, b, hj, rfl, ho, hp, hb⟩ := hrel
    have hrs : ((bs r).size : Int) = r.length := by rw [bs_size]
    by_cases hlt : 2 * j < r.length
    · have g1 : 2 * j < (bs r).size := by rw [bs_size]; omega
      have g2 : 2 * j + 1 < (bs r).size := by rw [bs_size]; omega
      have A1 := Lib.hid (show (bs r)[2 * j] = r.getD (2 * j) 0 from by rw [List.getD, List.getElem?_eq_getElem (by omega)]; rfl)
      have A2 := Lib.hid (show (bs r)[2 * j + 1] = r.getD (2 * j + 1) 0 from by rw [List.getD, List.getElem?_eq_getElem (by omega)]; rfl)
      clear hrs
      have hbl : b.length ≤ 100 := by have := hp.out.2; omega
      go_wp2_with (first | (go_at_call 80; refine (iby _ _).mono ?_; rintro e w3 ⟨rfl, rfl⟩) | (at_builtin; refine wpList_append_ownM rfl (.tmp 49) (.tmp 55) 106 rfl w'.heap.size 5 i0 (.int .u8 0) 1 Tryz.underlying106 HI.out.1 HI.out.2.1 HI.out.2.2.1 HI.out.2.2.2 rfl u6 b.length _ rfl (ho.out.alloc _) ⟨wr.heap.size, 0, none⟩ 1 1 _ rfl rfl (by decide) (cells_new _ _ _) (by simp [Value.oneCell']) (by unfold maxLen; omega) (by omega) (by have := hb.out.size; simp; omega) ?_; intro v' w1 h1 h2 h3; have H1 := Lib.hid h1; have H3 := Lib.hid h3; clear h1 h2 h3))
      · go_ret2
        have h : dgI (bs r)[2 * j] < 0 ∨ dgI (bs r)[2 * j + 1] < 0 := by assumption
        refine ⟨?_, hb.out⟩
        rw [A1.out, A2.out] at h
        have hn : pfold r (j + 1) = none := by rw [pfold, hp.out.1]; simp only; rw [if_pos h]
        rw [pfold_mono r (j + 1) (r.length / 2) hn (by omega)]; rfl
      · go_roundw
        case rel =>
          have h := (‹0 ≤ dgI (bs r)[2 * j] ∧ 0 ≤ dgI (bs r)[2 * j + 1]› : 0 ≤ dgI (bs r)[2 * j] ∧ 0 ≤ dgI (bs r)[2 * j + 1])
          have hv := pair_val (bs r)[2 * j] (bs r)[2 * j + 1] h.1 h.2
          have h1 := H1.out
          rw [hv] at h1
          refine ⟨_, _, v', .int .i64 (2 * (j : Int) + 2), ⟨j + 1, by omega, by go_num, b ++ [UInt8.ofNat (16 * (dgI (bs r)[2 * j]).toNat + (dgI (bs r)[2 * j + 1]).toNat)], OwnM.own ?_, ⟨?_, by simp; exact hp.out.2⟩, (hb.out.trans ((below_alloc1 _ _).mono hb.out.size)).trans H3.out⟩, rfl, rfl, rfl, rfl⟩
          · rw [List.length_append, Lib.byteCells_append]; exact h1
          · rw [A1.out, A2.out] at h ⊢
            rw [pfold, hp.out.1]
            simp only
            rw [if_neg (by omega)]
        case measure => simp [intOf]; omega
      · go_ret2
        have h : dgI (bs r)[2 * j] < 0 := by assumption
        refine ⟨?_, hb.out⟩
        rw [A1.out] at h
        have hn : pfold r (j + 1) = none := by rw [pfold, hp.out.1]; simp only; rw [if_pos (Or.inl h)]
        rw [pfold_mono r (j + 1) (r.length / 2) hn (by omega)]; rfl
    · have hc := ho.out.str (P := Tryz.prog) 106 9 Tryz.underlying106 Tryz.underlying5 Tryz.underlying9
      have hj2 : j = r.length / 2 := by omega
      have HJ := Lib.hid hj2
      clear hj2
      go_wp2
      go_ret2
      refine ⟨?_, hb.out⟩
      rw [← HJ.out, hp.out.1]; rfl
set_option maxRecDepth 100000 in
set_option maxHeartbeats 1000000 in
theorem sReadText_no (s : ByteArray) (w : World) (hs : s.size ≤ 100000) (hb : ¬ (s.data.toList.head? = some 61 ∧ (s.size - 1) % 2 = 0 ∧ s.size ≤ 101)) :
    Calls Tryz.prog 24 #[.string s] w fun e w' => e = .returned (rtRes none) ∧ Below w.heap.size w w' := by

  cases hl : s.data.toList with
  | nil =>
    have t2 : Lib.hasPrefix s.data.toList (ByteArray.mk #[61]).data.toList = false := by rw [hl]; rfl
    have T2 := Lib.hid t2
    clear t2 hb hl
    go_enter Tryz.func24, Tryz.ntmps24
    go_wp2_with fail
    have C := Tryz.strings_CutPrefix s ⟨#[61]⟩ w
    rw [T2.out] at C
    refine C.mono ?_
    rintro e w' ⟨rfl, rfl⟩
    clear C
    go_wp2_with fail
    go_ret2
    exact ⟨rfl, Below.refl _ _⟩
  | cons c r =>
    by_cases hc : c = 61
    · subst hc
      have hsz : s.size = r.length + 1 := by have := congrArg List.length hl; simpa using this
      have t1 : Lib.trimPrefix s.data.toList (ByteArray.mk #[61]).data.toList = r := by rw [hl]; simp [Lib.trimPrefix, Lib.hasPrefix]
      have t2 : Lib.hasPrefix s.data.toList (ByteArray.mk #[61]).data.toList = true := by rw [hl]; simp [Lib.hasPrefix]
      rw [hl] at hb
      simp only [List.head?_cons, true_and] at hb
      have hq : ((bs r).size : Int) % 2 ≠ 0 ∨ 100 < ((bs r).size : Int) := by rw [bs_size]; omega
      have hbr : ((bs r).size : Int) ≤ 100000 := by rw [bs_size]; omega
      have T1 := Lib.hid t1
      have T2 := Lib.hid t2
      clear t1 t2 hb hl hsz hs
      by_cases ho : ((bs r).size : Int) % 2 = 0
      · have h100 : 100 < ((bs r).size : Int) := by omega
        clear hq
        go_enter Tryz.func24, Tryz.ntmps24
        go_wp2_with fail
        have C := Tryz.strings_CutPrefix s ⟨#[61]⟩ w
        rw [T1.out, T2.out] at C
        refine C.mono ?_
        rintro e w' ⟨rfl, rfl⟩
        clear C
        rw [show (ByteArray.mk r.toArray) = bs r from rfl]
        go_wp2_with fail
        go_ret2
        exact ⟨rfl, Below.refl _ _⟩
      · have ho' : (((bs r).size : Int) % 2 != 0) = true := by rw [bne_iff_ne]; exact ho
        clear hq ho
        go_enter Tryz.func24, Tryz.ntmps24
        go_wp2_with fail
        have C := Tryz.strings_CutPrefix s ⟨#[61]⟩ w
        rw [T1.out, T2.out] at C
        refine C.mono ?_
        rintro e w' ⟨rfl, rfl⟩
        clear C
        rw [show (ByteArray.mk r.toArray) = bs r from rfl]
        go_wp2_with fail
        go_ret2
        exact ⟨rfl, Below.refl _ _⟩
    · have t2 : Lib.hasPrefix s.data.toList (ByteArray.mk #[61]).data.toList = false := by
        have e61 : ((61 : UInt8) == c) = false := by rw [beq_eq_false_iff_ne]; exact fun e => hc (Eq.symm e)
        rw [hl]; simp [Lib.hasPrefix, List.isPrefixOf, e61]
      have T2 := Lib.hid t2
      clear t2 hb hl hc
      go_enter Tryz.func24, Tryz.ntmps24
      go_wp2_with fail
      have C := Tryz.strings_CutPrefix s ⟨#[61]⟩ w
      rw [T2.out] at C
      refine C.mono ?_
      rintro e w' ⟨rfl, rfl⟩
      clear C
      go_wp2_with fail
      go_ret2
      exact ⟨rfl, Below.refl _ _⟩
/-- sheet.ReadText. -/
theorem sReadTextAll (s : ByteArray) (w : World) (hs : s.size ≤ 100000) :
    Calls Tryz.prog 24 #[.string s] w fun e w' => e = .returned (rtRes (rdText s.data.toList)) ∧ Below w.heap.size w w' := by
  by_cases hb : s.data.toList.head? = some 61 ∧ (s.size - 1) % 2 = 0 ∧ s.size ≤ 101
  · obtain ⟨h1, h2, h3⟩ := hb
    cases hl : s.data.toList with
    | nil => rw [hl] at h1; cases h1
    | cons c r =>
      rw [hl] at h1
      simp only [List.head?_cons, Option.some.injEq] at h1
      subst h1
      have hsz : s.size = r.length + 1 := by have := congrArg List.length hl; simpa using this
      have e : s = bs (61 :: r) := by rw [← hl]; rfl
      rw [e]
      have : rdText (61 :: r) = pfold r (r.length / 2) := by simp only [rdText]; rw [if_pos ⟨trivial, by omega, by omega⟩]
      rw [this]
      exact sReadText r w (by omega) (by omega)
  · have hn : rdText s.data.toList = none := by
      cases hl : s.data.toList with
      | nil => rfl
      | cons c r =>
        have hsz : s.size = r.length + 1 := by have := congrArg List.length hl; simpa using this
        rw [hl] at hb
        simp only [List.head?_cons, Option.some.injEq] at hb
        unfold rdText
        simp only
        rw [if_neg]
        intro h
        exact hb ⟨h.1, by omega, by omega⟩
    rw [hn]
    exact sReadText_no s w hs hb
end Go.Proofs.YtmfhpddeclggfaaGreatDoor
