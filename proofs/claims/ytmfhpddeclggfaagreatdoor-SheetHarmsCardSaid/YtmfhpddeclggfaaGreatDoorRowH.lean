import Derived.Test.YtmfhpddeclggfaaGreatDoorRowB
import Derived.Test.YtmfhpddeclggfaaGreatDoorGm
import Derived.Deep.Strs
namespace Go.Proofs.YtmfhpddeclggfaaGreatDoor
open Go Go.ChangeShapes Go.WideShapes Go.ChangeMaps Go.RowKit Go.Joins Go.Deep Go.Shelf Go.Lib
theorem c154 : Tryz.prog.cellsOf 154 = 4 := by kernel_rfl
set_option maxRecDepth 100000 in
/-- One harm. -/
theorem harm_of {H : Type} {enc : TypeId × Value → H} {W : World} {fuel : Nat} {cs : List Value} {x : DataW H × List MemPlace} (h : DataW.trod enc Tryz.prog W 0 (fun _ => true) true fuel 154 cs = some x) :
    ∃ f : HM, cs = [.int .i64 f.k, .int .i64 f.a, .int .i64 f.b, .int .i64 f.d] := by
  obtain ⟨y0, y1, y2, y3, n, hx, hl, h0, h1, h2, h3⟩ := trod_struct4 Tryz.underlying154 h
  rw [c154] at hl
  obtain ⟨x0, x1, x2, x3, rfl⟩ := list4 hl
  have h0' : DataW.trod enc Tryz.prog W 0 (fun _ => true) true n 3 [x0] = some y0 := h0
  have h1' : DataW.trod enc Tryz.prog W 0 (fun _ => true) true n 3 [x1] = some y1 := h1
  have h2' : DataW.trod enc Tryz.prog W 0 (fun _ => true) true n 3 [x2] = some y2 := h2
  have h3' : DataW.trod enc Tryz.prog W 0 (fun _ => true) true n 3 [x3] = some y3 := h3
  obtain ⟨m0, e0, -, -⟩ := DataW.trod_int Tryz.underlying3 h0'
  obtain rfl := List.singleton_inj.1 e0
  obtain ⟨m1, e1, -, -⟩ := DataW.trod_int Tryz.underlying3 h1'
  obtain rfl := List.singleton_inj.1 e1
  obtain ⟨m2, e2, -, -⟩ := DataW.trod_int Tryz.underlying3 h2'
  obtain rfl := List.singleton_inj.1 e2
  obtain ⟨m3, e3, -, -⟩ := DataW.trod_int Tryz.underlying3 h3'
  obtain rfl := List.singleton_inj.1 e3
  exact ⟨⟨m0, m1, m2, m3⟩, rfl⟩
set_option maxRecDepth 100000 in
/-- A list of harms among the arguments. -/
theorem read_harms {H : Type} {enc : TypeId × Value → H} {W : World} {base : Nat} {v : Value} {d : DataW H} {p : List MemPlace} (hv : Value.okWide Tryz.prog W .any base 67 v) (h : DataW.Trod enc Tryz.prog W 0 (fun _ => true) true 67 v d p) (_hlt : ∀ x ∈ p, x.block < W.heap.size) :
    ∃ (q : Option Addr) (c : Nat) (l : List HM), v = .slice q l.length c ∧ l.length ≤ maxLen ∧ HarmsAt W q l := by
  obtain ⟨q0, n0, c0, rfl⟩ := okWide_slice Tryz.underlying67 hv
  obtain ⟨fuel, hf⟩ := h
  rcases open_slice Tryz.underlying67 hf with ⟨hcs, hx⟩ | ⟨ad, len', cap', m, n', D, Pl, hcs, _, hl, hc, hm, hx, hi⟩
  · simp [Value.cells] at hcs
    obtain ⟨rfl, rfl, rfl⟩ := hcs
    exact ⟨none, 0, [], rfl, Nat.zero_le _, .inl rfl⟩
  · simp [Value.cells] at hcs
    obtain ⟨rfl, rfl, rfl⟩ := hcs
    simp only [if_true] at hm
    subst hm
    rw [c154] at hi
    have each : ∀ i, i < n0 → ∃ f : HM, W.cell? (ad.add (i * 4)) = some (.int .i64 f.k) ∧ W.cell? (ad.add (i * 4 + 1)) = some (.int .i64 f.a) ∧ W.cell? (ad.add (i * 4 + 2)) = some (.int .i64 f.b) ∧ W.cell? (ad.add (i * 4 + 3)) = some (.int .i64 f.d) := by
      intro i hil
      obtain ⟨cs', hcc, ht'⟩ := hi i (by omega)
      obtain ⟨f, rfl⟩ := harm_of ht'
      obtain ⟨_, hcl, hat⟩ := World.cells?_some hcc
      have a0 := hat 0 (by omega)
      have a1 := hat 1 (by omega)
      have a2 := hat 2 (by omega)
      have a3 := hat 3 (by omega)
      rw [addr_add_add] at a0 a1 a2 a3
      exact ⟨f, a0, a1, a2, a3⟩
    obtain ⟨l, hll, hlp⟩ := choose_list each
    have at_ : ∀ j, j < l.length → l[j]? = some (l.getD j default) := fun j hj => by rw [List.getD, List.getElem?_eq_getElem hj]; rfl
    refine ⟨some ad, m, l, by rw [hll], by omega, ?_⟩
    by_cases h00 : n0 = 0
    · left; exact List.length_eq_zero_iff.1 (hll.trans h00)
    · obtain ⟨b, off, spot⟩ := ad
      obtain ⟨q0, hq0, _⟩ := each 0 (by omega)
      have hspot : spot = none := by simpa [Addr.add] using World.cell?_spot hq0
      subst hspot
      refine .inr ⟨b, off, rfl, World.block_lt_of_cell? W _ hq0, fun j hj => ?_⟩
      obtain ⟨u0, u1, u2, u3⟩ := hlp j _ (at_ j hj)
      rw [Addr.add_lit] at u0 u1 u2 u3
      rw [Nat.add_assoc, Nat.add_assoc, Nat.add_assoc]
      exact ⟨u0, u1, u2, u3⟩
end Go.Proofs.YtmfhpddeclggfaaGreatDoor
