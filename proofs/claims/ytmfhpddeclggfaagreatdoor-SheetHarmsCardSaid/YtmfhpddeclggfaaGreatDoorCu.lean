import Derived.Test.YtmfhpddeclggfaaGreatDoorWrLaw
import Derived.WalkKit
import Derived.LoopTactic
import Derived.WalkSpells
import Derived.WalkLawsBesides
import Derived.Lib.Hide
import Derived.BigQuiet
import Derived.IntWalk
import Derived.Deep.DeepMust
import Derived.WalkSmall
import Derived.StillTailTactics
import Derived.Deep.RegionLaw
import Derived.Deep.QuietTactic
import Derived.Deep.Cut
import Derived.Deep.DeepCutAuto
import Derived.Deep.LoopGhost
import Derived.Laws.AppendOwn
namespace Go.Proofs.YtmfhpddeclggfaaGreatDoor
open Go.RowKit
/-! SheetCuts: the reference's pieces, and the comparison of two lists of texts. -/
/-- The pieces of a copy. -/
def pcsL (ps : List ByteArray) : List ByteArray := ps.filter fun p => p.size != 0
theorem pcs_take (ps : List ByteArray) (k : Nat) (h : k < ps.length) : pcsL (ps.take (k + 1)) = if (ps.getD k ByteArray.empty).size = 0 then pcsL (ps.take k) else pcsL (ps.take k) ++ [ps.getD k ByteArray.empty] := by
  have e : ps.getD k ByteArray.empty = ps[k] := by rw [List.getD, List.getElem?_eq_getElem h]; rfl
  rw [e, pcsL, List.take_succ_eq_append_getElem h, List.filter_append]
  by_cases hz : ps[k].size = 0
  · rw [if_pos hz]; simp [hz, pcsL]
  · rw [if_neg hz]; simp [hz, pcsL]
theorem pcs_len (ps : List ByteArray) (k : Nat) : (pcsL (ps.take k)).length ≤ ps.length := by
  have := List.length_filter_le (fun p : ByteArray => p.size != 0) (ps.take k)
  rw [List.length_take] at this
  unfold pcsL
  omega
theorem spL_count (c : UInt8) : ∀ l : List UInt8, (spL c l).length ≤ l.length + 1 := fun l => by
  induction l with
  | nil => simp [spL]
  | cons x l ih =>
    unfold spL
    by_cases hx : x = c
    · rw [if_pos hx]; simp; omega
    · rw [if_neg hx]
      cases hp : spL c l with
      | nil => simp
      | cons p q => rw [hp] at ih; simp at ih ⊢; omega
theorem str_nil {t : ByteArray} (hz : t.size = 0) : t.toList.isEmpty = true := by
  rw [ByteArray.toList_eq]
  have h3 : t.data.toList.length = t.size := by simp
  rw [hz] at h3
  rw [List.length_eq_zero_iff.1 h3]; rfl
theorem str_not_nil {t : ByteArray} (hz : ¬ t.size = 0) : t.toList.isEmpty = false := by
  rw [ByteArray.toList_eq, Bool.eq_false_iff]
  intro e
  have h3 : t.data.toList.length = t.size := by simp
  rw [List.isEmpty_iff.1 e] at h3
  exact hz h3.symm
theorem strs_cell {W : World} {q : Option Addr} {l : List ByteArray} (h : StrsAt W q l) (hne : l ≠ []) : ∃ b o, q = some ⟨b, o, none⟩ ∧ b < W.heap.size ∧ ∀ j, j < l.length → W.cell? ⟨b, o + j, none⟩ = some (.string (l.getD j ByteArray.empty)) := by
  rcases h with h | h
  · exact absurd h hne
  · exact h
set_option maxRecDepth 100000 in
set_option maxHeartbeats 4000000 in
theorem rPieces (s : ByteArray) (w : World) (hs : s.size ≤ 1000000) :
    Calls Tryz.prog 46 #[.string s] w fun e w' => ∃ (ps : List ByteArray) (q : Option Addr) (cap : Nat), e = .returned (.slice q (pcsL ps).length cap) ∧ StrsAt w' q (pcsL ps) ∧ Below w.heap.size w w' ∧ Hid (ps.map (·.data.toList) = spL 10 s.data.toList) := by
  obtain ⟨i0, hi, hz0, hz1, hz4⟩ := info_parts inf9
  have SP := Lib.hid (rSplit s 10 w hs)
  go_enter Tryz.func46, Tryz.ntmps46
  go_wp2_with fail
  refine SP.out.mono ?_
  rintro e w1 ⟨ps, v, rfl, hown, hb, hps⟩
  clear SP
  have hne : ps ≠ [] := fun e => by
    have := hps.out
    rw [e] at this
    exact spL_ne _ _ this.symm
  have hpl : Hid (ps.length ≤ 1000001) := by
    have h1 := congrArg List.length hps.out
    have h2 := spL_count 10 s.data.toList
    rw [List.length_map] at h1
    have h3 : s.data.toList.length = s.size := by simp
    unfold Hid; omega
  obtain ⟨q, cap, rfl, hst⟩ := strs_own hown
  obtain ⟨b, o, rfl, hbl, hcl⟩ := strs_cell hst hne
  have HBL := Lib.hid hbl
  have HCL := Lib.hid hcl
  have HB1 := Lib.hid hb
  obtain ⟨N, hN⟩ : ∃ N, Hid (ps.length = N) := ⟨_, rfl⟩
  have hNl : N ≤ 1000001 := by have := hpl.out; have := hN.out; omega
  clear hown hb hst hbl hcl hne
  rw [hN.out]
  go_wp2_with fail
  go_loopw [4, 5] (fun v i wr => ∃ k : Nat, k ≤ N ∧ i = .int .i64 k ∧ Hid (wr.ownsRow w1.heap.size 9 1 v (pcsL (ps.take k)).length (strsV (pcsL (ps.take k)))) ∧ Hid (Below w1.heap.size w1 wr)) (fun _ i _ => N - (intOf i).toNat)
  case atStart => exact ⟨0, Nat.zero_le _, rfl, World.ownsRow_nil _ _ _ _, Below.refl _ _⟩
  case round =>
    obtain ⟨k, hk, rfl, O, B⟩ := hrel
    have hw1 : Hid (w.heap.size ≤ w1.heap.size) := HB1.out.size
    by_cases hlt : k < N
    · have hkl : k < ps.length := by rw [hN.out]; exact hlt
      have hcl := HCL.out k hkl
      have c0 : wr.cell? ⟨b, o + k, none⟩ = some (.string (ps.getD k ByteArray.empty)) := (B.out.cell (p := ⟨b, o + k, none⟩) HBL.out).trans hcl
      have TK := pcs_take ps k hkl
      obtain ⟨t, ht⟩ : ∃ t, Hid (ps.getD k ByteArray.empty = t) := ⟨_, rfl⟩
      rw [ht.out] at c0 TK
      have hlt' : (k : Int) < (N : Int) := by omega
      by_cases hz : t.size = 0
      · rw [if_pos hz] at TK
        have TK1 := Lib.hid TK
        have e1 := str_nil hz
        clear TK hcl hz
        go_wp2_with fail
        refine ⟨⟨k + 1, by omega, by go_num, ?_, B⟩, by simp [intOf]; omega⟩
        rw [TK1.out]
        exact O
      · rw [if_neg hz] at TK
        have TK1 := Lib.hid TK
        have e1 := str_not_nil hz
        have hpq := pcs_len ps k
        have hpl1 := hpl.out
        obtain ⟨l, hl⟩ : ∃ l, pcsL (ps.take k) = l := ⟨_, rfl⟩
        rw [hl] at O TK1 hpq
        have HNW : Hid (∀ j u, ([.string t] : List Value)[j]? = some u → (wr.alloc (.cells #[.string t] 9)).cell? ((⟨wr.heap.size, 0, none⟩ : Addr).add j) = some u) := cells_new wr #[.string t] 9
        have HK1 : Hid (l.length + 1 ≤ maxLen) := by unfold Hid maxLen; omega
        have HK2 : Hid ((l.length + 1) * 16 ≤ 140737488355328) := by unfold Hid; omega
        have HK3 : Hid (w1.heap.size ≤ (wr.alloc (.cells #[.string t] 9)).heap.size) := by have := B.out.size; unfold Hid; simp; omega
        clear TK hcl hz hpq hpl1 hl
        go_wp2_with (at_builtin; refine wpList_append_own _ rfl (.tmp 19) (.tmp 24) 37 rfl w1.heap.size 9 i0 (.string ⟨#[]⟩) 1 16 Tryz.underlying37 hi hz0 hz1 hz4 rfl (by decide) u4 l.length (strsV l) rfl (O.out.alloc _) ⟨wr.heap.size, 0, none⟩ 1 1 [.string t] rfl rfl HNW.out (by simp [Value.oneCell']) HK1.out HK2.out HK3.out ?_; intro v' w4 hown hgrow _)
        refine ⟨⟨k + 1, by omega, by go_num, ?_, ?_⟩, by simp [intOf]; omega⟩
        · rw [TK1.out, List.length_append, strsV, List.map_append]
          exact hown
        · exact (B.out.alloc B.out.size _).grown hgrow HK3.out (fun g hg => (O.out.lt g hg).1)
    · obtain rfl : k = N := by omega
      have e := O.out
      rw [List.take_of_length_le (by have := hN.out; omega)] at e
      have E := Lib.hid e
      clear e
      go_wp2_with fail
      obtain ⟨q, cap, rfl, hst⟩ := strs_own E.out
      go_ret
      exact ⟨ps, q, cap, rfl, hst, HB1.out.trans (B.out.mono HB1.out.size), hps⟩
theorem sp_split : ∀ l : List UInt8, NoSp l ∨ ∃ p x, l = p ++ 32 :: x ∧ NoSp p
  | [] => .inl (fun c h => absurd h (by simp))
  | b :: l => by
    by_cases hb : b = 32
    · exact .inr ⟨[], l, by rw [hb]; rfl, fun c h => absurd h (by simp)⟩
    · rcases sp_split l with h | ⟨p, x, rfl, h⟩
      · exact .inl (fun c hc => by rcases List.mem_cons.1 hc with rfl | h2; exact hb; exact h c h2)
      · exact .inr ⟨b :: p, x, rfl, fun c hc => by rcases List.mem_cons.1 hc with rfl | h2; exact hb; exact h c h2⟩
theorem cut_none {l : List UInt8} (h : NoSp l) : cutH l = l ∧ cutF l = false := by
  unfold cutH cutF Lib.cut
  rw [index_none l h]
  exact ⟨rfl, rfl⟩
theorem cut_some {p : List UInt8} (x : List UInt8) (h : NoSp p) : cutH (p ++ 32 :: x) = p ∧ cutF (p ++ 32 :: x) = true := by
  unfold cutH cutF Lib.cut
  rw [index_at p x h, if_pos (by omega)]
  exact ⟨by simp, rfl⟩
theorem hp64 (l : List UInt8) : Lib.hasPrefix l [64] = (l.head? == some 64) := by
  unfold Lib.hasPrefix
  cases l with
  | nil => rfl
  | cons b l =>
    show (64 == b && true) = (some b == some 64)
    rw [Bool.and_true]
    by_cases h : b = 64
    · rw [h]; rfl
    · rw [beq_eq_false_iff_ne.2 (fun e => h e.symm), beq_eq_false_iff_ne.2 (fun e => h (Option.some.inj e))]
theorem spk_bad {l : List UInt8} (h : l.head? ≠ some 64) : spk l = none := by
  have h1 : Lib.hasPrefix (cutH l) [64] = false := by
    rw [hp64, beq_eq_false_iff_ne]
    rcases sp_split l with h2 | ⟨p, x, rfl, h2⟩
    · rw [(cut_none h2).1]; exact h
    · rw [(cut_some x h2).1]
      cases p with
      | nil => exact fun e => by cases e
      | cons b p => simpa using h
  unfold spk spkv
  rw [h1, Bool.false_and, if_neg (by simp)]
theorem spk_good {r h : List UInt8} {ps : List (List UInt8)} (hs : spL 32 r = h :: ps) : spk (64 :: r) = spkv (!ps.isEmpty) (rdInt h).isSome ((rdInt h).getD 0) := by
  have k : ∀ l : List UInt8, mk64 (64 :: l) = l := fun l => by
    unfold mk64 Lib.trimPrefix
    rw [hp64, if_pos (by rfl)]; rfl
  have n64 : ∀ p : List UInt8, NoSp p → NoSp (64 :: p) := fun p hp c hc => by
    rcases List.mem_cons.1 hc with rfl | h2
    · decide
    · exact hp c h2
  rcases sp_split r with h2 | ⟨p, x, rfl, h2⟩
  · rw [spL_none (fun c hc => h2 c hc)] at hs
    obtain ⟨rfl, rfl⟩ := List.cons.inj hs
    obtain ⟨c1, c2⟩ := cut_none (n64 r h2)
    unfold spk
    rw [c1, c2, k, hp64]
    rfl
  · rw [spL_cut x (fun c hc => h2 c hc)] at hs
    obtain ⟨rfl, rfl⟩ := List.cons.inj hs
    obtain ⟨c1, c2⟩ := cut_some x (n64 p h2)
    rw [List.cons_append] at c1 c2
    unfold spk
    rw [c1, c2, k, hp64]
    have : spL 32 x ≠ [] := spL_ne 32 x
    cases hx : spL 32 x with
    | nil => exact absurd hx this
    | cons a b => rfl
end Go.Proofs.YtmfhpddeclggfaaGreatDoor
