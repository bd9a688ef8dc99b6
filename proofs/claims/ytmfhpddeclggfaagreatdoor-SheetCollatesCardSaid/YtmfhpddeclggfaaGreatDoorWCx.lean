import Derived.RangeFuncNested
import Derived.RangeFuncBound
import Derived.RangeFuncCalls
import Derived.RangeFuncLeaves
import Derived.Test.YtmfhpddeclggfaaGreatDoorWc
import Derived.RangeFuncBox
import Derived.Shelf.Abstract
import Derived.Shelf.RegionOpen
import Derived.OwnWalkIn
import Derived.TacticsInMore
import Derived.LoopNIn
import Derived.LoopIn
import Derived.Maps.AppendAt
import Derived.WalkKit
import Derived.LoopTactic
import Derived.WalkSpells
import Derived.WalkLawsBesides
import Derived.Lib.Hide
import Derived.BigQuiet
import Derived.IntWalk
import Derived.Deep.DeepMust
import Derived.WalkSmall
import Derived.StillTailTactics
import Derived.Deep.RegionLaw
import Derived.Deep.QuietTactic
import Derived.Deep.Cut
import Derived.Deep.DeepCutAuto
import Derived.Deep.LoopGhost
import Derived.Laws.AppendOwn
namespace Go.Proofs.YtmfhpddeclggfaaGreatDoor
open Go.RowKit
/-! The pieces of the program are those of the reference. -/
theorem by_split (c : UInt8) : ∀ l : List UInt8, (∀ y ∈ l, y ≠ c) ∨ ∃ p x, l = p ++ c :: x ∧ ∀ y ∈ p, y ≠ c
  | [] => .inl (fun c h => absurd h (by simp))
  | b :: l => by
    by_cases hb : b = c
    · exact .inr ⟨[], l, by rw [hb]; rfl, fun c h => absurd h (by simp)⟩
    · rcases by_split c l with h | ⟨p, x, rfl, h⟩
      · exact .inl (fun y hc => by rcases List.mem_cons.1 hc with rfl | h2; exact hb; exact h y h2)
      · exact .inr ⟨b :: p, x, rfl, fun y hc => by rcases List.mem_cons.1 hc with rfl | h2; exact hb; exact h y h2⟩
theorem index_hit (c : UInt8) : ∀ (p x : List UInt8), (∀ y ∈ p, y ≠ c) → Lib.index (p ++ c :: x) [c] = p.length
  | [], x, _ => by simp [Lib.index, List.isPrefixOf]
  | b :: p, x, h => by
    have hb : b ≠ c := h b List.mem_cons_self
    have ih := index_hit c p x (fun y hy => h y (List.mem_cons_of_mem _ hy))
    have h1 : ([c] : List UInt8).isPrefixOf (b :: (p ++ c :: x)) = false := by simp [List.isPrefixOf, Ne.symm hb]
    have h2 : ((p.length : Int) == -1) = false := by rw [beq_eq_false_iff_ne]; omega
    rw [List.cons_append, Lib.index, ih, h1, h2]
    simp
theorem splitB_spL (c : UInt8) : ∀ (k : Nat) (r : ByteArray), r.size ≤ k → (Lib.splitB ⟨#[c]⟩ 0 k r).map (·.data.toList) = spL c r.data.toList
  | 0, r, h => by
    have h3 : r.data.toList.length = r.size := by simp
    have h4 : r.data.toList = [] := List.length_eq_zero_iff.1 (by omega)
    rw [Lib.splitB_zero, List.map_cons, List.map_nil, h4]
    rfl
  | k + 1, r, h => by
    rcases by_split c r.data.toList with hn | ⟨p, x, e, hn⟩
    · rw [Lib.splitB_miss _ _ _ _ (show Lib.index r.data.toList [c] = -1 from index_no c _ hn), spL_none hn]
      rfl
    · have hi : Lib.indexB r ⟨#[c]⟩ = (p.length : Nat) := by
        show Lib.index r.data.toList [c] = _
        rw [e]; exact index_hit c p x hn
      have hsz : r.size = p.length + (x.length + 1) := by
        have h3 : r.data.toList.length = r.size := by simp
        rw [← h3, e]; simp
      rw [Lib.splitB_hit _ _ _ _ _ hi, List.map_cons]
      have e1 : (r.extract 0 (p.length + 0)).data.toList = p := by
        have : (r.extract 0 (p.length + 0)).data.toList = r.data.toList.take p.length := by simp
        rw [this, e]; simp
      have e2 : (r.extract (p.length + (⟨#[c]⟩ : ByteArray).size) r.size).data.toList = x := by
        rw [show (r.extract (p.length + (⟨#[c]⟩ : ByteArray).size) r.size).data.toList = r.data.toList.drop (p.length + 1) from Lib.extract_to_end r _, e]
        simp
      rw [splitB_spL c k _ (by rw [ByteArray.size_extract]; show min r.size r.size - (p.length + 1) ≤ k; omega), e1, e2, e, spL_cut x hn]
theorem full_size (p : ByteArray) : full p = (p.size != 0) := by
  unfold full
  rw [ByteArray.toList_eq]
  have h3 : p.data.toList.length = p.size := by simp
  rw [← h3]
  cases p.data.toList <;> rfl
theorem data_inj : ∀ {l m : List ByteArray}, l.map (·.data.toList) = m.map (·.data.toList) → l = m
  | [], [], _ => rfl
  | [], _ :: _, h => by simp at h
  | _ :: _, [], h => by simp at h
  | a :: l, b :: m, h => by
    simp only [List.map_cons, List.cons.injEq] at h
    obtain ⟨h1, h2⟩ := h
    rw [data_inj h2, show a = b from ByteArray.ext (Array.toList_inj.1 h1)]
theorem parts_pcs {s : ByteArray} {ps : List ByteArray} (h : ps.map (·.data.toList) = spL 10 s.data.toList) : pcsL ps = partsN s := by
  have h2 : ps = partsF s := data_inj (h.trans (splitB_spL 10 s.size s (Nat.le_refl _)).symm)
  rw [h2]
  unfold pcsL partsN
  congr 1
  funext p
  exact (full_size p).symm
/-- Both cut a copy into the same pieces. -/
theorem rPieces2 (s : ByteArray) (w : World) (hs : s.size ≤ 1000000) :
    Calls Tryz.prog 46 #[.string s] w fun e w' => ∃ (q : Option Addr) (cap : Nat), e = .returned (.slice q (partsN s).length cap) ∧ StrsAt w' q (partsN s) ∧ Below w.heap.size w w' := by
  refine (rPieces s w hs).mono ?_
  rintro e w' ⟨ps, q, cap, rfl, hst, hb, hp⟩
  rw [parts_pcs hp.out] at hst ⊢
  exact ⟨q, cap, rfl, hst, hb⟩
theorem partsN_len (s : ByteArray) : (partsN s).length ≤ s.size + 1 := by
  have h3 : (partsN s).length ≤ (partsF s).length := List.length_filter_le _ _
  have h4 := Lib.splitB_length_le ⟨#[10]⟩ 0 s.size s
  unfold partsF at h3
  omega
end Go.Proofs.YtmfhpddeclggfaaGreatDoor
