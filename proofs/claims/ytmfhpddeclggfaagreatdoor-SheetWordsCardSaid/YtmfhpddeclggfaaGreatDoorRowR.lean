import Derived.Test.YtmfhpddeclggfaaGreatDoorRowK
import Derived.Test.YtmfhpddeclggfaaGreatDoorCheckLine
import Derived.Deep.Slices
import Derived.SliceStrings
namespace Go.Proofs.YtmfhpddeclggfaaGreatDoor
open Go Go.ChangeShapes Go.WideShapes Go.ChangeMaps Go.RowKit Go.Joins Go.Deep Go.Shelf Go.Lib
theorem Tryz.cellsOf9 : Tryz.prog.cellsOf 9 = 1 := by kernel_rfl
theorem Tryz.cellsOf37 : Tryz.prog.cellsOf 37 = 1 := by kernel_rfl
theorem choose_list {α : Type} {P : Nat → α → Prop} : ∀ {n : Nat}, (∀ i, i < n → ∃ q, P i q) → ∃ l : List α, l.length = n ∧ ∀ i q, l[i]? = some q → P i q
  | 0, _ => ⟨[], rfl, fun i q h => by simp at h⟩
  | n + 1, h => by
    obtain ⟨l, hl, hp⟩ := choose_list (n := n) (P := P) (fun i hi => h i (by omega))
    obtain ⟨q, hq⟩ := h n (by omega)
    refine ⟨l ++ [q], by simp [hl], fun i u hu => ?_⟩
    by_cases hi : i < l.length
    · exact hp i u (by rwa [List.getElem?_append_left hi] at hu)
    · rw [List.getElem?_append_right (by omega)] at hu
      have hin : i = n := by
        rcases Nat.lt_or_ge (i - l.length) 1 with g | g
        · omega
        · rw [List.getElem?_eq_none (by simpa using g)] at hu; cases hu
      subst hin
      rw [hl] at hu
      obtain rfl : q = u := by simpa using hu
      exact hq
theorem trod_str {H : Type} {enc : TypeId × Value → H} {P : Program} {w : World} {base : Nat} {sp : Nat → Bool} {hd : Bool} {fuel : Nat} {t : TypeId} {cs : List Value} {x : DataW H × List MemPlace} (ht : P.underlying t = some .string)
    (h : DataW.trod enc P w base sp hd fuel t cs = some x) : ∃ s : ByteArray, cs = [.string s] ∧ s.size ≤ maxLen := by
  obtain ⟨s, h1, _, h3⟩ := DataW.trod_string ht h
  exact ⟨s, h1, h3⟩
set_option maxRecDepth 100000 in
/-- A list of strings, out of what is read at a slice. -/
theorem strs_of {H : Type} {enc : TypeId × Value → H} {W : World} {fuel : Nat} {cs : List Value} {x : DataW H × List MemPlace} (h : DataW.trod enc Tryz.prog W 0 (fun _ => true) true fuel 37 cs = some x) :
    ∃ (q : Option Addr) (c : Nat) (l : List ByteArray), cs = [.slice q l.length c] ∧ l.length ≤ maxLen ∧ (∀ j, (l.getD j ByteArray.empty).size ≤ maxLen) ∧ StrsAt W q l := by
  rcases open_slice Tryz.underlying37 h with ⟨hcs, hx⟩ | ⟨ad, len', cap', m, n, D, Pl, hcs, _, hl, hc, hm, hx, hi⟩
  · exact ⟨none, 0, [], hcs, Nat.zero_le _, fun j => Nat.zero_le _, .inl rfl⟩
  · simp only [if_true] at hm
    subst hm
    rw [Tryz.cellsOf9] at hi
    have each : ∀ i, i < len' → ∃ s : ByteArray, W.cell? (ad.add (i * 1)) = some (.string s) ∧ s.size ≤ maxLen := by
      intro i hil
      obtain ⟨cs', hcc, ht'⟩ := hi i (by omega)
      obtain ⟨s, rfl, hs⟩ := trod_str Tryz.underlying9 ht'
      obtain ⟨_, hcl, hat⟩ := World.cells?_some hcc
      refine ⟨s, ?_, hs⟩
      have := hat 0 (by omega)
      simpa [Addr.add] using this
    obtain ⟨l, hll, hlp⟩ := choose_list each
    refine ⟨some ad, _, l, by rw [hll]; exact hcs, by omega, fun j => ?_, ?_⟩
    · rw [List.getD]
      cases hj : l[j]? with
      | none => exact Nat.zero_le _
      | some s => exact (hlp j s hj).2
    · by_cases h0 : len' = 0
      · left; exact List.length_eq_zero_iff.1 (hll.trans h0)
      · obtain ⟨b, off, spot⟩ := ad
        obtain ⟨q0, hq0, _⟩ := each 0 (by omega)
        have hspot : spot = none := by simpa [Addr.add] using World.cell?_spot hq0
        subst hspot
        refine .inr ⟨b, off, rfl, World.block_lt_of_cell? W _ hq0, fun j hj => ?_⟩
        have := (hlp j l[j] (List.getElem?_eq_getElem hj)).1
        rw [List.getD, List.getElem?_eq_getElem hj, Option.getD_some]
        by_cases h1 : j = 0
        · subst h1
          simpa [Addr.add] using this
        · simpa [Addr.add, h1] using this
set_option maxRecDepth 100000 in
/-- A list of strings among the arguments. -/
theorem read_strs {H : Type} {enc : TypeId × Value → H} {W : World} {base : Nat} {v : Value} {d : DataW H} {p : List MemPlace} (hv : Value.okWide Tryz.prog W .any base 37 v) (h : DataW.Trod enc Tryz.prog W 0 (fun _ => true) true 37 v d p) (_hlt : ∀ x ∈ p, x.block < W.heap.size) :
    ∃ (q : Option Addr) (c : Nat) (l : List ByteArray), v = .slice q l.length c ∧ l.length ≤ maxLen ∧ (∀ j, (l.getD j ByteArray.empty).size ≤ maxLen) ∧ StrsAt W q l := by
  obtain ⟨q0, n0, c0, rfl⟩ := okWide_slice Tryz.underlying37 hv
  obtain ⟨fuel, hf⟩ := h
  obtain ⟨q, c, l, h1, h2⟩ := strs_of hf
  exact ⟨q, c, l, by simpa [Value.cells] using h1, h2⟩
end Go.Proofs.YtmfhpddeclggfaaGreatDoor
