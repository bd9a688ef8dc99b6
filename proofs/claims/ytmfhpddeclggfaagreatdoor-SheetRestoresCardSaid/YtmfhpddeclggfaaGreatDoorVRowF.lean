import Derived.Test.YtmfhpddeclggfaaGreatDoorKr
import Derived.Test.YtmfhpddeclggfaaGreatDoorVTd0
import Derived.Deep.Strs
namespace Go.Proofs.YtmfhpddeclggfaaGreatDoor
open Go Go.ChangeShapes Go.WideShapes Go.ChangeMaps Go.RowKit Go.Joins Go.Deep Go.Shelf Go.Lib
theorem c105 : Tryz.prog.cellsOf 105 = 1 := by kernel_rfl
theorem c194 : Tryz.prog.cellsOf 194 = 4 := by kernel_rfl
theorem c191 : Tryz.prog.cellsOf 191 = 1 := by kernel_rfl
theorem list4T {α : Type} {l : List α} (h : l.length = 4) : ∃ a b c d, l = [a, b, c, d] := by
  match l, h with
  | [a, b, c, d], _ => exact ⟨a, b, c, d, rfl⟩
theorem addr_addT (ad : Addr) (a b : Nat) : (ad.add a).add b = ad.add (a + b) := by
  unfold Addr.add
  by_cases h1 : a = 0
  · subst h1; simp
  · by_cases h2 : b = 0
    · subst h2; simp
    · simp [h1, h2, Nat.add_assoc]
set_option maxRecDepth 100000 in
/-- A list of places. -/
theorem u16s_of {H : Type} {enc : TypeId × Value → H} {W : World} {fuel : Nat} {cs : List Value} {x : DataW H × List MemPlace} (h : DataW.trod enc Tryz.prog W 0 (fun _ => true) true fuel 192 cs = some x) :
    ∃ (q : Option Addr) (c : Nat) (l : List Nat), cs = [.slice q l.length c] ∧ l.length ≤ maxLen ∧ (∀ j, l.getD j 0 ≤ 65535) ∧ U16At W q l := by
  rcases open_slice Tryz.underlying192 h with ⟨hcs, hx⟩ | ⟨ad, len', cap', m, n, D, Pl, hcs, _, hl, hc, hm, hx, hi⟩
  · exact ⟨none, 0, [], hcs, Nat.zero_le _, fun j => Nat.zero_le _, .inl rfl⟩
  · simp only [if_true] at hm
    subst hm
    rw [c105] at hi
    have each : ∀ i, i < len' → ∃ s : Nat, W.cell? (ad.add (i * 1)) = some (.int .u16 (s : Int)) ∧ s ≤ 65535 := by
      intro i hil
      obtain ⟨cs', hcc, ht'⟩ := hi i (by omega)
      obtain ⟨z, rfl, -, hz⟩ := DataW.trod_int Tryz.underlying105 ht'
      obtain ⟨z0, z1⟩ := bounds_u16 hz
      obtain ⟨_, hcl, hat⟩ := World.cells?_some hcc
      refine ⟨z.toNat, ?_, by omega⟩
      have := hat 0 (by omega)
      rw [Int.toNat_of_nonneg z0]
      simpa [Addr.add] using this
    obtain ⟨l, hll, hlp⟩ := choose_list each
    refine ⟨some ad, _, l, by rw [hll]; exact hcs, by omega, fun j => ?_, ?_⟩
    · rw [List.getD]
      cases hj : l[j]? with
      | none => exact Nat.zero_le _
      | some s => exact (hlp j s hj).2
    · by_cases h0 : len' = 0
      · left; exact List.length_eq_zero_iff.1 (hll.trans h0)
      · obtain ⟨b, off, spot⟩ := ad
        obtain ⟨q0, hq0, _⟩ := each 0 (by omega)
        have hspot : spot = none := by simpa [Addr.add] using World.cell?_spot hq0
        subst hspot
        refine .inr ⟨b, off, rfl, World.block_lt_of_cell? W _ hq0, fun j hj => ?_⟩
        have := (hlp j l[j] (List.getElem?_eq_getElem hj)).1
        rw [List.getD, List.getElem?_eq_getElem hj, Option.getD_some]
        by_cases h1 : j = 0
        · subst h1
          simpa [Addr.add] using this
        · simpa [Addr.add, h1] using this
set_option maxRecDepth 100000 in
/-- One fate. -/
theorem fate_of {H : Type} {enc : TypeId × Value → H} {W : World} {fuel : Nat} {cs : List Value} {x : DataW H × List MemPlace} (h : DataW.trod enc Tryz.prog W 0 (fun _ => true) true fuel 194 cs = some x) :
    ∃ f : FE, cs = [.int .u8 (f.kd : Int), .int .u16 (f.pos : Int), .slice f.p f.pl.length f.cap, .int .u8 (f.byt.toNat : Int)] ∧ U16At W f.p f.pl ∧ f.ok := by
  obtain ⟨y0, y1, y2, y3, n, hx, hl, h0, h1, h2, h3⟩ := trod_struct4 Tryz.underlying194 h
  rw [c194] at hl
  obtain ⟨x0, x1, x2, x3, rfl⟩ := list4T hl
  have h0' : DataW.trod enc Tryz.prog W 0 (fun _ => true) true n 5 [x0] = some y0 := h0
  have h1' : DataW.trod enc Tryz.prog W 0 (fun _ => true) true n 105 [x1] = some y1 := h1
  have h2' : DataW.trod enc Tryz.prog W 0 (fun _ => true) true n 192 [x2] = some y2 := h2
  have h3' : DataW.trod enc Tryz.prog W 0 (fun _ => true) true n 5 [x3] = some y3 := h3
  obtain ⟨m0, e0, -, w0⟩ := DataW.trod_int Tryz.underlying5 h0'
  obtain rfl := List.singleton_inj.1 e0
  obtain ⟨m1, e1, -, w1⟩ := DataW.trod_int Tryz.underlying105 h1'
  obtain rfl := List.singleton_inj.1 e1
  obtain ⟨q, c, l, e2, k1, k2, k3⟩ := u16s_of h2'
  obtain rfl := List.singleton_inj.1 e2
  obtain ⟨m3, e3, -, w3⟩ := DataW.trod_int Tryz.underlying5 h3'
  obtain rfl := List.singleton_inj.1 e3
  obtain ⟨b0, b0'⟩ := bounds_u8 w0
  obtain ⟨b1, b1'⟩ := bounds_u16 w1
  obtain ⟨b3, b3'⟩ := bounds_u8 w3
  refine ⟨⟨m0.toNat, m1.toNat, q, c, l, UInt8.ofNat m3.toNat⟩, ?_, k3, ⟨by show m0.toNat ≤ 255; omega, by show m1.toNat ≤ 65535; omega, k2, k1⟩⟩
  have e8 : (UInt8.ofNat m3.toNat).toNat = m3.toNat := by rw [UInt8.toNat_ofNat']; exact Nat.mod_eq_of_lt (by omega)
  show _ = [Value.int .u8 (m0.toNat : Int), .int .u16 (m1.toNat : Int), .slice q l.length c, .int .u8 ((UInt8.ofNat m3.toNat).toNat : Int)]
  rw [e8, Int.toNat_of_nonneg b0, Int.toNat_of_nonneg b1, Int.toNat_of_nonneg b3]
set_option maxRecDepth 100000 in
/-- The fates of one copy. -/
theorem fates_of {H : Type} {enc : TypeId × Value → H} {W : World} {fuel : Nat} {cs : List Value} {x : DataW H × List MemPlace} (h : DataW.trod enc Tryz.prog W 0 (fun _ => true) true fuel 191 cs = some x) :
    ∃ (q : Option Addr) (c : Nat) (l : List FE), cs = [.slice q l.length c] ∧ l.length ≤ maxLen ∧ FatesAt W q l := by
  rcases open_slice Tryz.underlying191 h with ⟨hcs, hx⟩ | ⟨ad, len', cap', m, n, D, Pl, hcs, _, hl, hc, hm, hx, hi⟩
  · exact ⟨none, 0, [], hcs, Nat.zero_le _, .inl rfl, fun j hj => absurd hj (Nat.not_lt_zero _)⟩
  · simp only [if_true] at hm
    subst hm
    rw [c194] at hi
    have each : ∀ i, i < len' → ∃ f : FE, (W.cell? (ad.add (i * 4)) = some (.int .u8 (f.kd : Int)) ∧ W.cell? (ad.add (i * 4 + 1)) = some (.int .u16 (f.pos : Int)) ∧ W.cell? (ad.add (i * 4 + 2)) = some (.slice f.p f.pl.length f.cap) ∧ W.cell? (ad.add (i * 4 + 3)) = some (.int .u8 (f.byt.toNat : Int))) ∧ U16At W f.p f.pl ∧ f.ok := by
      intro i hil
      obtain ⟨cs', hcc, ht'⟩ := hi i (by omega)
      obtain ⟨f, rfl, hu, hok⟩ := fate_of ht'
      obtain ⟨_, hcl, hat⟩ := World.cells?_some hcc
      have a0 := hat 0 (by omega)
      have a1 := hat 1 (by omega)
      have a2 := hat 2 (by omega)
      have a3 := hat 3 (by omega)
      rw [addr_addT] at a0 a1 a2 a3
      exact ⟨f, ⟨a0, a1, a2, a3⟩, hu, hok⟩
    obtain ⟨l, hll, hlp⟩ := choose_list each
    have at_ : ∀ j, j < l.length → l[j]? = some (l.getD j default) := fun j hj => by rw [List.getD, List.getElem?_eq_getElem hj]; rfl
    refine ⟨some ad, _, l, by rw [hll]; exact hcs, by omega, ?_, fun j hj => (hlp j _ (at_ j hj)).2⟩
    by_cases h00 : len' = 0
    · left; exact List.length_eq_zero_iff.1 (hll.trans h00)
    · obtain ⟨b, off, spot⟩ := ad
      obtain ⟨q0, ⟨hq0, _⟩, _⟩ := each 0 (by omega)
      have hspot : spot = none := by simpa [Addr.add] using World.cell?_spot hq0
      subst hspot
      refine .inr ⟨b, off, rfl, World.block_lt_of_cell? W _ hq0, fun j hj => ?_⟩
      obtain ⟨⟨u0, u1, u2, u3⟩, -⟩ := hlp j _ (at_ j hj)
      rw [Addr.add_lit] at u0 u1 u2 u3
      rw [Nat.add_assoc, Nat.add_assoc, Nat.add_assoc]
      exact ⟨u0, u1, u2, u3⟩
set_option maxRecDepth 100000 in
/-- The fates of copies among the arguments. -/
theorem read_fates {H : Type} {enc : TypeId × Value → H} {W : World} {base : Nat} {v : Value} {d : DataW H} {p : List MemPlace} (hv : Value.okWide Tryz.prog W .any base 108 v) (h : DataW.Trod enc Tryz.prog W 0 (fun _ => true) true 108 v d p) (_hlt : ∀ x ∈ p, x.block < W.heap.size) :
    ∃ (q : Option Addr) (c : Nat) (l : List GF), v = .slice q l.length c ∧ l.length ≤ maxLen ∧ (∀ j, (l.getD j default).fs.length ≤ maxLen) ∧ FatessAt W q l := by
  obtain ⟨q0, n0, c0, rfl⟩ := okWide_slice Tryz.underlying108 hv
  obtain ⟨fuel, hf⟩ := h
  rcases open_slice Tryz.underlying108 hf with ⟨hcs, hx⟩ | ⟨ad, len', cap', m, n, D, Pl, hcs, _, hl, hc, hm, hx, hi⟩
  · simp [Value.cells] at hcs
    obtain ⟨rfl, rfl, rfl⟩ := hcs
    exact ⟨none, 0, [], rfl, Nat.zero_le _, fun j => Nat.zero_le _, .inl rfl, fun j hj => absurd hj (Nat.not_lt_zero _)⟩
  · simp [Value.cells] at hcs
    obtain ⟨rfl, rfl, rfl⟩ := hcs
    simp only [if_true] at hm
    subst hm
    rw [c191] at hi
    have each : ∀ i, i < n0 → ∃ g : GF, W.cell? (ad.add (i * 1)) = some (.slice g.p g.fs.length g.cap) ∧ g.fs.length ≤ maxLen ∧ FatesAt W g.p g.fs := by
      intro i hil
      obtain ⟨cs', hcc, ht'⟩ := hi i (by omega)
      obtain ⟨q, c, l, rfl, h1, h2⟩ := fates_of ht'
      obtain ⟨_, hcl, hat⟩ := World.cells?_some hcc
      refine ⟨⟨q, c, l⟩, ?_, h1, h2⟩
      have := hat 0 (by omega)
      simpa [Addr.add] using this
    obtain ⟨l, hll, hlp⟩ := choose_list each
    have at_ : ∀ j, j < l.length → l[j]? = some (l.getD j default) := fun j hj => by rw [List.getD, List.getElem?_eq_getElem hj]; rfl
    refine ⟨some ad, m, l, by rw [hll], by omega, fun j => ?_, ?_, fun j hj => (hlp j _ (at_ j hj)).2.2⟩
    · by_cases hj : j < l.length
      · exact (hlp j _ (at_ j hj)).2.1
      · have : l.getD j default = default := by rw [List.getD, List.getElem?_eq_none (by omega)]; rfl
        rw [this]
        exact Nat.zero_le _
    · by_cases h0 : n0 = 0
      · left; exact List.length_eq_zero_iff.1 (hll.trans h0)
      · obtain ⟨b, off, spot⟩ := ad
        obtain ⟨q0, hq0, _⟩ := each 0 (by omega)
        have hspot : spot = none := by simpa [Addr.add] using World.cell?_spot hq0
        subst hspot
        refine .inr ⟨b, off, rfl, World.block_lt_of_cell? W _ hq0, fun j hj => ?_⟩
        have := (hlp j _ (at_ j hj)).1
        by_cases h1 : j = 0
        · subst h1
          simpa [Addr.add] using this
        · simpa [Addr.add, h1] using this
end Go.Proofs.YtmfhpddeclggfaaGreatDoor
