import Derived.Test.YtmfhpddeclggfaaGreatDoorVUc
import Derived.Test.YtmfhpddeclggfaaGreatDoorVNa
import Derived.Test.YtmfhpddeclggfaaGreatDoorOm
import Derived.Test.YtmfhpddeclggfaaGreatDoorVTa
import Derived.Test.YtmfhpddeclggfaaGreatDoorVTd0
import Derived.Test.YtmfhpddeclggfaaGreatDoorVTb
import Derived.Test.YtmfhpddeclggfaaGreatDoorVIia
import Derived.Test.YtmfhpddeclggfaaGreatDoorTf
import Derived.Test.YtmfhpddeclggfaaGreatDoorVTc
import Derived.Test.YtmfhpddeclggfaaGreatDoorVIfb
import Derived.Test.YtmfhpddeclggfaaGreatDoorVc
import Derived.Test.YtmfhpddeclggfaaGreatDoorKf
import Derived.Lib.ConvBytes
import Derived.Laws.IdiomStrings
import Derived.WalkKit
import Derived.LoopTactic
import Derived.WalkSpells
import Derived.WalkLawsBesides
import Derived.Lib.Hide
import Derived.BigQuiet
import Derived.IntWalk
import Derived.Deep.DeepMust
import Derived.WalkSmall
import Derived.StillTailTactics
import Derived.Deep.RegionLaw
import Derived.Deep.QuietTactic
import Derived.Deep.Cut
import Derived.Deep.DeepCutAuto
import Derived.Deep.LoopGhost
import Derived.Deep.RegionHeld3
import Derived.Laws.OwnMore
namespace Go.Proofs.YtmfhpddeclggfaaGreatDoor
open Go.RowKit
/-! The book of a story that was told. -/
theorem ln_sz {m : Int} {ws : List ByteArray} (h : lineErr m ws = 0) : (bs (lineT m ws)).size ≤ 10000 := by
  obtain ⟨n1, n2, l1, wo⟩ := lineErr_ok h
  have z1 := wordsL_len ws (wordsOk_size wo)
  have z2 := four_len (chk (headL m ws)) (by have := chk_lt (headL m ws); omega)
  have z3 := (itoa_len m (by omega) (by omega)).2
  have z4 := (itoa_len ws.length (by omega) (by omega)).2
  rw [bs_size]
  unfold lineT
  rw [List.length_append, z2]
  simp only [headL, List.length_append, List.length_cons, List.length_nil]
  omega
set_option maxRecDepth 100000 in
theorem cpy_sz (ts : List ByteArray) (fs : List FE) (h : ∀ i, (ts.getD i ByteArray.empty).size ≤ 10000) : ∀ m, (cpO (hvT ts fs m)).size ≤ m * 10001
  | 0 => Nat.zero_le _
  | m + 1 => by
    have ih := cpy_sz ts fs h m
    unfold cpO at ih ⊢
    rw [hvT_succ]
    cases hc : fatC (ts.getD m ByteArray.empty).data.toList (feAt fs m).ft with
    | none =>
      rw [cpy_none]
      exact Nat.le_trans ih (Nat.mul_le_mul_right _ (Nat.le_succ _))
    | some l =>
      rw [cpy_some, ByteArray.size_append, ByteArray.size_append]
      have h0 : (bs l).size = l.length := bs_size l
      have h1 := fatC_len hc
      obtain ⟨A, hA⟩ : ∃ A, (bs (cpyL (List.filterMap id (hvT ts fs m)))).size = A := ⟨_, rfl⟩
      rw [hA] at ih ⊢
      have h2 := h m
      have h3 : (ts.getD m ByteArray.empty).data.toList.length = (ts.getD m ByteArray.empty).size := by simp
      have h4 : (⟨#[10]⟩ : ByteArray).size = 1 := rfl
      omega
theorem txT_sz {ls : List GL} (ok : ∀ i, i < ls.length → lineErr ((i : Int) + 1) (ls.getD i default).ws = 0) (i : Nat) : ((txT ls ls.length).getD i ByteArray.empty).size ≤ 10000 := by
  by_cases h : i < ls.length
  · rw [txT_at ls h]; exact ln_sz (ok i h)
  · rw [List.getD, List.getElem?_eq_none (by rw [txT_len]; omega)]; exact Nat.zero_le _
theorem HT_sz {ls : List GL} {gs : List GF} (ok : ∀ i, i < ls.length → lineErr ((i : Int) + 1) (ls.getD i default).ws = 0) (h8 : ls.length ≤ 8) (j : Nat) : (((HT ls gs).map cpO).getD j ByteArray.empty).size ≤ 99999 := by
  rw [List.getD]
  cases hj : ((HT ls gs).map cpO)[j]? with
  | none => exact Nat.zero_le _
  | some c =>
    obtain ⟨h, hh, rfl⟩ := List.mem_map.1 (List.mem_of_getElem? hj)
    obtain ⟨g, -, rfl⟩ := List.mem_map.1 hh
    have := cpy_sz (txT ls ls.length) g.fs (txT_sz ok) ls.length
    simp only [Option.getD_some]
    omega
theorem hvT_at {ts : List ByteArray} {fs : List FE} {m i : Nat} {o : Option (List UInt8)} (h : (hvT ts fs m)[i]? = some o) : i < m ∧ o = fatC (ts.getD i ByteArray.empty).data.toList (feAt fs i).ft := by
  have hi := (List.getElem?_eq_some_iff.1 h).1
  rw [hvT_len] at hi
  unfold hvT at h
  rw [List.getElem?_map, List.getElem?_range hi] at h
  exact ⟨hi, (Option.some.inj h).symm⟩
theorem hvT_get {ts : List ByteArray} {fs : List FE} {m i : Nat} (h : i < m) : (hvT ts fs m)[i]? = some (fatC (ts.getD i ByteArray.empty).data.toList (feAt fs i).ft) := by
  unfold hvT
  rw [List.getElem?_map, List.getElem?_range h]
  rfl
theorem story_of {ls : List GL} (gs : List GF) (ok : ∀ i, i < ls.length → lineErr ((i : Int) + 1) (ls.getD i default).ws = 0) : Story (txT ls ls.length) (HT ls gs) := by
  have hln : ∀ i, i < (txT ls ls.length).length → LnS ((txT ls ls.length).getD i ByteArray.empty) ((i : Int) + 1) := fun i hi => by
    rw [txT_len] at hi
    rw [txT_at ls hi]
    exact ln_write (ok i hi)
  refine ⟨hln, fun h hh => ?_, fun h hh i c hc => ?_⟩
  · obtain ⟨g, -, rfl⟩ := List.mem_map.1 hh
    rw [hvT_len, txT_len]
    exact Nat.le_refl _
  · obtain ⟨g, -, rfl⟩ := List.mem_map.1 hh
    obtain ⟨hi, e⟩ := hvT_at hc
    by_cases h9 : c = ((txT ls ls.length).getD i ByteArray.empty).data.toList
    · exact .inl h9
    · exact .inr (frag_of (hln i (by rw [txT_len]; exact hi)) (feAt g.fs i).ft e.symm h9)
/-- What the law asks of the book. -/
structure BkN (ls : List GL) (gs : List GF) (fl : List (FL × List Int)) : Prop where
  i1 : ∀ j, j < fl.length → ∃ i, i < ls.length ∧ (fl.getD j default).1.g.n = (i : Int) + 1 ∧ (fl.getD j default).1.g.ws = (ls.getD i default).ws ∧ (whl (txT ls ls.length) (HT ls gs) i ≠ [] → (fl.getD j default).1.rs = false ∧ (fl.getD j default).2 = whl (txT ls ls.length) (HT ls gs) i) ∧ (whl (txT ls ls.length) (HT ls gs) i = [] → (fl.getD j default).1.rs = true)
  i2 : ∀ i, i < ls.length → whl (txT ls ls.length) (HT ls gs) i ≠ [] → ∃ j, j < fl.length ∧ (fl.getD j default).1.g.n = (i : Int) + 1
theorem bkN_of {ls : List GL} {gs : List GF} {fl : List (FL × List Int)} (ok : ∀ i, i < ls.length → lineErr ((i : Int) + 1) (ls.getD i default).ws = 0) (T : Told (txT ls ls.length) (HT ls gs) (coB ((HT ls gs).map cpO))) (hk : fl.map kG = (coB ((HT ls gs).map cpO)).1) : BkN ls gs fl := by
  refine ⟨fun j hj => ?_, fun i hi hw => ?_⟩
  · have hm : kG (fl.getD j default) ∈ (coB ((HT ls gs).map cpO)).1 := by
      rw [← hk, List.getD, List.getElem?_eq_getElem hj]
      exact List.mem_map.2 ⟨_, List.getElem_mem hj, rfl⟩
    obtain ⟨i, F⟩ := T.fnd _ hm
    have hi := F.lt
    rw [txT_len] at hi
    refine ⟨i, hi, F.num, ?_, F.some, F.none⟩
    have := F.ws
    rw [txT_at ls hi, (rl_of (ok i hi)).w] at this
    exact this
  · obtain ⟨f, hf, hn⟩ := T.wh i (by rw [txT_len]; exact hi) hw
    rw [← hk] at hf
    obtain ⟨x, hx, rfl⟩ := List.mem_map.1 hf
    obtain ⟨j, hj, rfl⟩ := List.getElem_of_mem hx
    exact ⟨j, hj, by rw [List.getD, List.getElem?_eq_getElem hj]; exact hn⟩
/-- Whether a copy has a line whole, as the law asks it. -/
theorem has_iff {ls : List GL} {gs : List GF} (ok : ∀ i, i < ls.length → lineErr ((i : Int) + 1) (ls.getD i default).ws = 0) {k i : Nat} (hk : k < gs.length) (hi : i < ls.length) :
    (hsT ((HT ls gs).getD k [])).getD i ByteArray.empty = (txT ls ls.length).getD i ByteArray.empty ↔ ((HT ls gs).getD k [])[i]? = some (some ((txT ls ls.length).getD i ByteArray.empty).data.toList) := by
  have hH : (HT ls gs).getD k [] = hvT (txT ls ls.length) (gs.getD k default).fs ls.length := by
    unfold HT
    simp [List.getD, List.getElem?_eq_getElem hk]
  rw [hH]
  have hg := hvT_get (ts := txT ls ls.length) (fs := (gs.getD k default).fs) hi
  obtain ⟨o, ho⟩ : ∃ o, fatC ((txT ls ls.length).getD i ByteArray.empty).data.toList (feAt (gs.getD k default).fs i).ft = o := ⟨_, rfl⟩
  rw [ho] at hg
  have h1 : (hsT (hvT (txT ls ls.length) (gs.getD k default).fs ls.length)).getD i ByteArray.empty = bs (o.getD []) := by
    unfold hsT
    rw [List.getD, List.getElem?_map, hg]
    rfl
  rw [h1, hg]
  have hp : 0 < ((txT ls ls.length).getD i ByteArray.empty).data.toList.length := by
    rw [txT_at ls hi]
    exact (ln_write (ok i hi)).pos
  constructor
  · intro e
    cases o with
    | none =>
      exfalso
      rw [← e] at hp
      exact absurd hp (by decide)
    | some l =>
      rw [← e]
      rfl
  · intro e
    rw [Option.some.inj e]
    rfl
end Go.Proofs.YtmfhpddeclggfaaGreatDoor
