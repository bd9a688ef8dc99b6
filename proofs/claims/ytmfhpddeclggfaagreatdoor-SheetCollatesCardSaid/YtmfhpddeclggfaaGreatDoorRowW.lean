import Derived.Test.YtmfhpddeclggfaaGreatDoorKr
namespace Go.Proofs.YtmfhpddeclggfaaGreatDoor
open Go Go.ChangeShapes Go.WideShapes Go.ChangeMaps Go.RowKit Go.Joins Go.Deep Go.Shelf Go.Lib
theorem weightsAll_mem {H : Type} {P : Program} {e : TypeId} : ∀ {l : List (DataW H)} {d : DataW H}, d ∈ l → ∀ n ∈ d.weights P e, n ∈ DataW.weightsAll P e l
  | x :: l, d, hd, n, hn => by
    simp only [DataW.weightsAll, List.mem_append]
    rcases List.mem_cons.1 hd with rfl | h
    · exact Or.inl hn
    · exact Or.inr (weightsAll_mem h n hn)
set_option maxRecDepth 100000 in
/-- A list of strings, with the memory that each takes. -/
theorem strs_w {H : Type} {enc : TypeId × Value → H} {W : World} {fuel : Nat} {cs : List Value} {x : DataW H × List MemPlace} (h : DataW.trod enc Tryz.prog W 0 (fun _ => true) true fuel 37 cs = some x) :
    ∃ (q : Option Addr) (c : Nat) (l : List ByteArray), cs = [.slice q l.length c] ∧ l.length ≤ maxLen ∧ (∀ j, (l.getD j ByteArray.empty).size ≤ maxLen) ∧ StrsAt W q l ∧ ∀ s ∈ l, s.size ∈ x.1.weights Tryz.prog 37 := by
  rcases open_slice Tryz.underlying37 h with ⟨hcs, hx⟩ | ⟨ad, len', cap', m, n, D, Pl, hcs, _, hl, hc, hm, hx, hi⟩
  · exact ⟨none, 0, [], hcs, Nat.zero_le _, fun j => Nat.zero_le _, .inl rfl, fun s hs => by cases hs⟩
  · simp only [if_true] at hm
    subst hm
    rw [Tryz.cellsOf9] at hi
    have each : ∀ i, i < len' → ∃ s : ByteArray, W.cell? (ad.add (i * 1)) = some (.string s) ∧ s.size ≤ maxLen ∧ D i = .lit (.string s.data.toList) := by
      intro i hil
      obtain ⟨cs', hcc, ht'⟩ := hi i (by omega)
      obtain ⟨s, rfl, hx2, hs⟩ := DataW.trod_string Tryz.underlying9 ht'
      obtain ⟨_, hcl, hat⟩ := World.cells?_some hcc
      refine ⟨s, ?_, hs, by simpa using congrArg Prod.fst hx2⟩
      have := hat 0 (by omega)
      simpa [Addr.add] using this
    obtain ⟨l, hll, hlp⟩ := choose_list each
    refine ⟨some ad, _, l, by rw [hll]; exact hcs, by omega, fun j => ?_, ?_, fun s hs => ?_⟩
    · rw [List.getD]
      cases hj : l[j]? with
      | none => exact Nat.zero_le _
      | some s => exact (hlp j s hj).2.1
    · by_cases h0 : len' = 0
      · left; exact List.length_eq_zero_iff.1 (hll.trans h0)
      · obtain ⟨b, off, spot⟩ := ad
        obtain ⟨q0, hq0, _⟩ := each 0 (by omega)
        have hspot : spot = none := by simpa [Addr.add] using World.cell?_spot hq0
        subst hspot
        refine .inr ⟨b, off, rfl, World.block_lt_of_cell? W _ hq0, fun j hj => ?_⟩
        have := (hlp j l[j] (List.getElem?_eq_getElem hj)).1
        rw [List.getD, List.getElem?_eq_getElem hj, Option.getD_some]
        by_cases h1 : j = 0
        · subst h1
          simpa [Addr.add] using this
        · simpa [Addr.add, h1] using this
    · obtain ⟨j, hj, rfl⟩ := List.getElem_of_mem hs
      have hD := (hlp j l[j] (List.getElem?_eq_getElem hj)).2.2
      have hx1 : x.1 = DataW.slice ((List.range len').map D) ((List.range (_ - len')).map fun j => D (len' + j)) := congrArg Prod.fst hx
      rw [hx1]
      simp only [DataW.weights, Tryz.underlying37, List.mem_cons, List.mem_append]
      refine Or.inr (Or.inl (weightsAll_mem (d := D j) (List.mem_map.2 ⟨j, List.mem_range.2 (by omega), rfl⟩) _ ?_))
      rw [hD]
      simp [DataW.weights]
set_option maxRecDepth 100000 in
theorem read_strs_w {H : Type} {enc : TypeId × Value → H} {W : World} {base : Nat} {v : Value} {d : DataW H} {p : List MemPlace} (hv : Value.okWide Tryz.prog W .any base 37 v) (h : DataW.Trod enc Tryz.prog W 0 (fun _ => true) true 37 v d p) (_hlt : ∀ x ∈ p, x.block < W.heap.size) :
    ∃ (q : Option Addr) (c : Nat) (l : List ByteArray), v = .slice q l.length c ∧ l.length ≤ maxLen ∧ (∀ j, (l.getD j ByteArray.empty).size ≤ maxLen) ∧ StrsAt W q l ∧ ∀ s ∈ l, s.size ∈ d.weights Tryz.prog 37 := by
  obtain ⟨q0, n0, c0, rfl⟩ := okWide_slice Tryz.underlying37 hv
  obtain ⟨fuel, hf⟩ := h
  obtain ⟨q, c, l, h1, h2⟩ := strs_w hf
  exact ⟨q, c, l, by simpa [Value.cells] using h1, h2⟩
end Go.Proofs.YtmfhpddeclggfaaGreatDoor
