import Derived.Test.YtmfhpddeclggfaaGreatDoorReadText
import Derived.WalkKit
import Derived.LoopTactic
import Derived.WalkSpells
import Derived.WalkLawsBesides
import Derived.Lib.Hide
import Derived.BigQuiet
import Derived.IntWalk
import Derived.Deep.DeepMust
import Derived.WalkSmall
import Derived.StillTailTactics
import Derived.Lib.SlBytesConst
import Derived.Deep.RegionLaw
import Derived.Deep.QuietTactic
namespace Go.Proofs.YtmfhpddeclggfaaGreatDoor
open Go.RowKit
theorem pair_val2_fin : ∀ a : Fin 16, ∀ b : Fin 16, ((16 * ((a.val : Nat) : Int) + ((b.val : Nat) : Int)) % 256) = ((UInt8.ofNat (16 * a.val + b.val)).toNat : Int) := by decide +kernel
theorem pair_val2 (a b : UInt8) (ha : 0 ≤ dgI a) (hb : 0 ≤ dgI b) : (16 * dgI a + dgI b) % 256 = ((UInt8.ofNat (16 * (dgI a).toNat + (dgI b).toNat)).toNat : Int) := by
  rcases dgI_cases a with h | ⟨_, h1, _⟩
  · omega
  rcases dgI_cases b with h | ⟨_, h2, _⟩
  · omega
  have := pair_val2_fin ⟨(dgI a).toNat, by omega⟩ ⟨(dgI b).toNat, by omega⟩
  simp only [Int.toNat_of_nonneg ha, Int.toNat_of_nonneg hb] at this
  exact this
theorem heap_last (w : World) (o : Obj) : (w.alloc o).heap[w.heap.size]? = some o := by
  show (w.heap.push o)[w.heap.size]? = _
  simp
theorem frozen_new (w : World) (C : Array Value) (e : TypeId) (o : Nat) : (w.alloc (.cells C e)).frozen? ⟨w.heap.size, o, none⟩ = false := by
  have : (w.alloc (.cells C e)).heap[w.heap.size]? = some (.cells C e) := by
    show (w.heap.push (.cells C e))[w.heap.size]? = _
    simp
  unfold World.frozen?
  rw [this]
  simp
theorem getD_cons (r : List UInt8) (c d : UInt8) (k : Nat) : (c :: r).getD (k + 1) d = r.getD k d := by simp [List.getD]
set_option maxRecDepth 100000 in
set_option maxHeartbeats 1000000 in
theorem rReadText (r : List UInt8) (w : World) (he : r.length % 2 = 0) (hl : r.length ≤ 100) :
    Calls Tryz.prog 25 #[.string (bs (61 :: r))] w fun e w' => e = .returned (wdRes (pfold r (r.length / 2)) 7) ∧ Below w.heap.size w w' := by
  obtain ⟨i0, hi, hz0, hz1, hz2⟩ := info_parts info5
  have HI := Lib.hid (And.intro hi (And.intro hz0 (And.intro hz1 hz2)))
  clear hi hz0 hz1 hz2
  have hsz : (bs (61 :: r)).size ≤ 101 := by rw [bs_size]; simp; omega
  have hs1 : 1 ≤ (bs (61 :: r)).size := by rw [bs_size]; simp
  have e2 : (((bs (61 :: r)).size : Int) % 2 != 1) = false := by
    rw [bs_size, List.length_cons]
    have : ((r.length + 1 : Nat) : Int) % 2 = 1 := by omega
    rw [this]; rfl
  have e3 : ((((bs (61 :: r))[0]).toNat : Int) != 61) = false := by rfl
  go_enter Tryz.func25, Tryz.ntmps25
  go_wp2
  go_loopw [3, 4] (fun v i wr => ∃ (j : Nat) (b : List UInt8), 2 * j ≤ r.length ∧ i = .int .i64 (2 * (j : Int) + 1) ∧ Hid (OwnM wr (w.heap.size + 1) 5 v b.length (Lib.byteCells b)) ∧ Hid (pfold r j = some b ∧ b.length = j) ∧ Hid (Below (w.heap.size + 1) (w.alloc (.cells #[.string ⟨#[]⟩, .int .i64 0] 32)) wr)) (fun _ i _ => r.length + 1 - (intOf i).toNat)
  case atStart =>
    refine ⟨0, [], Nat.zero_le _, rfl, Or.inr ⟨w.heap.size + 1, (0, 0), rfl, Nat.le_refl _, ?_, rfl⟩, ⟨rfl, rfl⟩, (Below.refl _ _).alloc (by simp) _⟩
    have := heap_last (w.alloc (.cells #[.string ⟨#[]⟩, .int .i64 0] 32)) (.cells #[] 5)
    rw [World.size_alloc] at this
    exact this
  case round =>
    obtain ⟨j, b, hj, rfl, ho, hp, hb⟩ := hrel
    have hrs : ((bs (61 :: r)).size : Int) = r.length + 1 := by rw [bs_size]; simp
    have hc0 : wr.cell? ⟨w.heap.size, 0, none⟩ = some (.string ⟨#[]⟩) := by
      rw [hb.out.cell (p := ⟨w.heap.size, 0, none⟩) (by show w.heap.size < _; omega)]
      simp
    have hc1 : wr.cell? ⟨w.heap.size, 1, none⟩ = some (.int .i64 0) := by
      rw [hb.out.cell (p := ⟨w.heap.size, 1, none⟩) (by show w.heap.size < _; omega)]
      simp
    have hf : ∀ o, wr.frozen? ⟨w.heap.size, o, none⟩ = false := by
      intro o
      rw [hb.out.frozen (p := ⟨w.heap.size, o, none⟩) (by show w.heap.size < _; omega)]
      exact frozen_new w _ _ o
    have hf0 := hf 0
    have hf1 := hf 1
    clear hf
    have hw : Hid (Below w.heap.size w wr) := ((below_alloc1 _ _).trans (hb.out.mono (Nat.le_succ _)))
    by_cases hlt : 2 * j < r.length
    · have g1 : 2 * j + 1 < (bs (61 :: r)).size := by rw [bs_size, List.length_cons]; omega
      have g2 : 2 * j + 1 + 1 < (bs (61 :: r)).size := by rw [bs_size, List.length_cons]; omega
      have A1 := Lib.hid (show (bs (61 :: r))[2 * j + 1] = r.getD (2 * j) 0 from by rw [List.getD, List.getElem?_eq_getElem (by omega)]; rfl)
      have A2 := Lib.hid (show (bs (61 :: r))[2 * j + 1 + 1] = r.getD (2 * j + 1) 0 from by rw [List.getD, List.getElem?_eq_getElem (by omega)]; rfl)
      have hbl : b.length ≤ 100 := by have := hp.out.2; omega
      have D1 : dgI (bs (61 :: r))[2 * j + 1] < 16 := by rcases dgI_cases (bs (61 :: r))[2 * j + 1] with h | h <;> omega
      have D2 : dgI (bs (61 :: r))[2 * j + 1 + 1] < 16 := by rcases dgI_cases (bs (61 :: r))[2 * j + 1 + 1] with h | h <;> omega
      clear hrs
      go_wp2_with (first | (go_at_call 81; refine (digit_any _ _ rfl _).mono ?_; rintro e w3 ⟨rfl, rfl⟩) | (at_builtin; refine wpList_append_ownM rfl (.tmp 45) (.tmp 51) 106 rfl (w.heap.size + 1) 5 i0 (.int .u8 0) 1 Tryz.underlying106 HI.out.1 HI.out.2.1 HI.out.2.2.1 HI.out.2.2.2 rfl u3 b.length _ rfl (ho.out.alloc _) ⟨_, 0, none⟩ 1 1 _ rfl rfl (by decide) (cells_new _ _ _) (by simp [Value.oneCell']) (by unfold maxLen; omega) (by omega) (by have := hb.out.size; simp at this; simp; omega) ?_; intro v' w1 h1 h2 h3; have H1 := Lib.hid h1; have H3 := Lib.hid h3; clear h1 h2 h3))
      · have h : dgI (bs (61 :: r))[2 * j + 1] < 0 ∨ dgI (bs (61 :: r))[2 * j + 1 + 1] < 0 := by assumption
        refine bodyPost_ret (v := .agg #[.string ⟨#[]⟩, .int .i64 7]) (by simp [results, Tryz.results25, go_sem, hc0, hc1]) rfl ⟨?_, ?_⟩
        · rw [A1.out, A2.out] at h
          have hn : pfold r (j + 1) = none := by rw [pfold, hp.out.1]; simp only; rw [if_pos h]
          rw [pfold_mono r (j + 1) (r.length / 2) hn (by omega)]; rfl
        · exact (hw.out.setCell (p := ⟨w.heap.size, 0, none⟩) (Nat.le_refl _) _).setCell (p := ⟨w.heap.size, 1, none⟩) (Nat.le_refl _) _
      · go_roundw
        case rel =>
          have h := (‹0 ≤ dgI (bs (61 :: r))[2 * j + 1] ∧ 0 ≤ dgI (bs (61 :: r))[2 * j + 1 + 1]› : 0 ≤ dgI (bs (61 :: r))[2 * j + 1] ∧ 0 ≤ dgI (bs (61 :: r))[2 * j + 1 + 1])
          have hv : 16 * dgI (bs (61 :: r))[2 * j + 1] + dgI (bs (61 :: r))[2 * j + 1 + 1] = ((UInt8.ofNat (16 * (dgI (bs (61 :: r))[2 * j + 1]).toNat + (dgI (bs (61 :: r))[2 * j + 1 + 1]).toNat)).toNat : Int) := by have := pair_val2 (bs (61 :: r))[2 * j + 1] (bs (61 :: r))[2 * j + 1 + 1] h.1 h.2; omega
          have h1 := H1.out
          rw [hv] at h1
          refine ⟨j + 1, b ++ [UInt8.ofNat (16 * (dgI (bs (61 :: r))[2 * j + 1]).toNat + (dgI (bs (61 :: r))[2 * j + 1 + 1]).toNat)], by omega, by go_num, OwnM.own ?_, ⟨?_, by simp; exact hp.out.2⟩, (hb.out.trans ((below_alloc1 _ _).mono (by have := hb.out.size; simp at this; omega))).trans H3.out⟩
          · rw [List.length_append, Lib.byteCells_append]; exact h1
          · rw [A1.out, A2.out] at h ⊢
            rw [pfold, hp.out.1]
            simp only
            rw [if_neg (by omega)]
        case measure => simp [intOf]; omega
      · have h : dgI (bs (61 :: r))[2 * j + 1] < 0 := by assumption
        refine bodyPost_ret (v := .agg #[.string ⟨#[]⟩, .int .i64 7]) (by simp [results, Tryz.results25, go_sem, hc0, hc1]) rfl ⟨?_, ?_⟩
        · rw [A1.out] at h
          have hn : pfold r (j + 1) = none := by rw [pfold, hp.out.1]; simp only; rw [if_pos (Or.inl h)]
          rw [pfold_mono r (j + 1) (r.length / 2) hn (by omega)]; rfl
        · exact (hw.out.setCell (p := ⟨w.heap.size, 0, none⟩) (Nat.le_refl _) _).setCell (p := ⟨w.heap.size, 1, none⟩) (Nat.le_refl _) _
    · have hc := ho.out.str (P := Tryz.prog) 106 9 Tryz.underlying106 Tryz.underlying5 Tryz.underlying9
      have hj2 : j = r.length / 2 := by omega
      have HJ := Lib.hid hj2
      clear hj2
      go_wp2
      refine bodyPost_ret (v := .agg #[.string (bs b), .int .i64 0]) (by simp [results, Tryz.results25, go_sem, hc0, hc1]) rfl ⟨?_, ?_⟩
      · rw [← HJ.out, hp.out.1]; rfl
      · exact (hw.out.setCell (p := ⟨w.heap.size, 0, none⟩) (Nat.le_refl _) _).setCell (p := ⟨w.heap.size, 1, none⟩) (Nat.le_refl _) _
set_option maxRecDepth 100000 in
set_option maxHeartbeats 1000000 in
theorem rReadText_no (s : ByteArray) (w : World) (hs : s.size ≤ 100000) (hb : ¬ (s.data.toList.head? = some 61 ∧ (s.size - 1) % 2 = 0 ∧ s.size ≤ 101)) :
    Calls Tryz.prog 25 #[.string s] w fun e w' => e = .returned (wdRes none 7) ∧ Below w.heap.size w w' := by
  by_cases ho : (s.size : Int) % 2 = 1
  · have e2 : ((s.size : Int) % 2 != 1) = false := by rw [ho]; rfl
    have h1 : 0 < s.size := by omega
    by_cases h100 : 101 < s.size
    · clear hb ho
      go_enter Tryz.func25, Tryz.ntmps25
      go_wp2
      refine bodyPost_ret (v := .agg #[.string ⟨#[]⟩, .int .i64 7]) (by simp [results, Tryz.results25, go_sem]) rfl ⟨rfl, below_alloc1 _ _⟩
    · have e3 : ((s[0].toNat : Int) != 61) = true := by
        rw [bne_iff_ne]
        intro e
        apply hb
        refine ⟨?_, by omega, by omega⟩
        rw [List.head?_eq_getElem?, at_list s 0 h1]
        exact congrArg some (UInt8.toNat_inj.1 (show s[0].toNat = 61 by omega))
      clear hb ho
      go_enter Tryz.func25, Tryz.ntmps25
      go_wp2
      refine bodyPost_ret (v := .agg #[.string ⟨#[]⟩, .int .i64 7]) (by simp [results, Tryz.results25, go_sem]) rfl ⟨rfl, below_alloc1 _ _⟩
  · have e2 : ((s.size : Int) % 2 != 1) = true := by rw [bne_iff_ne]; exact ho
    clear hb ho
    go_enter Tryz.func25, Tryz.ntmps25
    go_wp2
    refine bodyPost_ret (v := .agg #[.string ⟨#[]⟩, .int .i64 7]) (by simp [results, Tryz.results25, go_sem]) rfl ⟨rfl, below_alloc1 _ _⟩
/-- The specification's ReadText. -/
theorem rReadTextAll (s : ByteArray) (w : World) (hs : s.size ≤ 100000) :
    Calls Tryz.prog 25 #[.string s] w fun e w' => e = .returned (wdRes (rdText s.data.toList) 7) ∧ Below w.heap.size w w' := by
  by_cases hb : s.data.toList.head? = some 61 ∧ (s.size - 1) % 2 = 0 ∧ s.size ≤ 101
  · obtain ⟨h1, h2, h3⟩ := hb
    cases hl : s.data.toList with
    | nil => rw [hl] at h1; cases h1
    | cons c r =>
      rw [hl] at h1
      simp only [List.head?_cons, Option.some.injEq] at h1
      subst h1
      have hsz : s.size = r.length + 1 := by have := congrArg List.length hl; simpa using this
      have e : s = bs (61 :: r) := by rw [← hl]; rfl
      rw [e]
      have : rdText (61 :: r) = pfold r (r.length / 2) := by simp only [rdText]; rw [if_pos ⟨trivial, by omega, by omega⟩]
      rw [this]
      exact rReadText r w (by omega) (by omega)
  · have hn : rdText s.data.toList = none := by
      cases hl : s.data.toList with
      | nil => rfl
      | cons c r =>
        have hsz : s.size = r.length + 1 := by have := congrArg List.length hl; simpa using this
        rw [hl] at hb
        simp only [List.head?_cons, Option.some.injEq] at hb
        unfold rdText
        simp only
        rw [if_neg]
        intro h
        exact hb ⟨h.1, by omega, by omega⟩
    rw [hn]
    exact rReadText_no s w hs hb
end Go.Proofs.YtmfhpddeclggfaaGreatDoor
