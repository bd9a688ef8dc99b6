import Derived.Test.YtmfhpddeclggfaaGreatDoorRowW
import Derived.Test.YtmfhpddeclggfaaGreatDoorEa
import Derived.Deep.Strs
namespace Go.Proofs.YtmfhpddeclggfaaGreatDoor
open Go Go.ChangeShapes Go.WideShapes Go.ChangeMaps Go.RowKit Go.Joins Go.Deep Go.Shelf Go.Lib
theorem c87 : Tryz.prog.cellsOf 87 = 4 := by kernel_rfl
theorem c39 : Tryz.prog.cellsOf 39 = 2 := by kernel_rfl
theorem c37 : Tryz.prog.cellsOf 37 = 1 := by kernel_rfl
theorem b9 : Tryz.prog.bytesOf 9 = 16 := by kernel_rfl
set_option maxRecDepth 100000 in
/-- A list of strings, with the memory that it takes. -/
theorem strs_b {H : Type} {enc : TypeId × Value → H} {W : World} {fuel : Nat} {cs : List Value} {x : DataW H × List MemPlace} (h : DataW.trod enc Tryz.prog W 0 (fun _ => true) true fuel 37 cs = some x) :
    ∃ (q : Option Addr) (c : Nat) (l : List ByteArray), cs = [.slice q l.length c] ∧ l.length ≤ maxLen ∧ (∀ j, (l.getD j ByteArray.empty).size ≤ maxLen) ∧ StrsAt W q l ∧ (l = [] ∨ ∃ n ∈ x.1.weights Tryz.prog 37, l.length * 16 ≤ n) := by
  obtain ⟨q, c, l, h1, h2, h3, h4⟩ := strs_of h
  refine ⟨q, c, l, h1, h2, h3, h4, ?_⟩
  rcases open_slice Tryz.underlying37 h with ⟨hcs, hx⟩ | ⟨ad, len', cap', m, n, D, Pl, hcs, _, hl, hc, hm, hx, hi⟩
  · left
    rw [h1] at hcs
    have := List.singleton_inj.1 hcs
    injection this with _ e _
    exact List.length_eq_zero_iff.1 e
  · right
    rw [h1] at hcs
    have e0 := List.singleton_inj.1 hcs
    injection e0 with _ e _
    have hx1 : x.1 = DataW.slice ((List.range len').map D) ((List.range (m - len')).map fun j => D (len' + j)) := congrArg Prod.fst hx
    refine ⟨(len' + (m - len')) * 16, ?_, by rw [e]; exact Nat.mul_le_mul_right 16 (Nat.le_add_right _ _)⟩
    rw [hx1]
    simp only [DataW.weights, Tryz.underlying37, List.mem_cons, List.length_map, List.length_range, b9]
    exact Or.inl trivial
theorem slice_form {H : Type} {enc : TypeId × Value → H} {W : World} {fuel : Nat} {t e : TypeId} (ht : Tryz.prog.underlying t = some (.slice e)) {cs : List Value} {x : DataW H × List MemPlace} (h : DataW.trod enc Tryz.prog W 0 (fun _ => true) true fuel t cs = some x) : ∃ (q : Option Addr) (n c : Nat), cs = [.slice q n c] := by
  rcases open_slice ht h with ⟨hcs, hx⟩ | ⟨ad, len', cap', m, n, D, Pl, hcs, _⟩
  · exact ⟨none, 0, 0, hcs⟩
  · exact ⟨_, _, _, hcs⟩
theorem addr_add_add (ad : Addr) (a b : Nat) : (ad.add a).add b = ad.add (a + b) := by
  unfold Addr.add
  by_cases h1 : a = 0
  · subst h1; simp
  · by_cases h2 : b = 0
    · subst h2; simp
    · simp [h1, h2, Nat.add_assoc]
theorem list4 {α : Type} {l : List α} (h : l.length = 4) : ∃ a b c d, l = [a, b, c, d] := by
  match l, h with
  | [a, b, c, d], _ => exact ⟨a, b, c, d, rfl⟩
set_option maxRecDepth 100000 in
/-- One reading. -/
theorem found_of {H : Type} {enc : TypeId × Value → H} {W : World} {fuel : Nat} {cs : List Value} {x : DataW H × List MemPlace} (h : DataW.trod enc Tryz.prog W 0 (fun _ => true) true fuel 87 cs = some x) :
    ∃ f : FL, cs = [.int .i64 f.g.n, .slice f.g.p f.g.ws.length f.g.cap, .slice f.cp f.cn f.cc, .bool f.rs] ∧ f.g.small ∧ StrsAt W f.g.p f.g.ws ∧ (f.g.ws = [] ∨ ∃ n ∈ x.1.weights Tryz.prog 87, f.g.ws.length * 16 ≤ n) := by
  obtain ⟨y0, y1, y2, n, hx, hl, h0, h1, h2⟩ := trod_struct3 Tryz.underlying87 h
  rw [c87] at hl
  obtain ⟨x0, x1, x2, x3, rfl⟩ := list4 hl
  have h0' : DataW.trod enc Tryz.prog W 0 (fun _ => true) true n 39 [x0, x1] = some y0 := h0
  obtain ⟨z0, z1, n', hz, -, g0, g1⟩ := trod_struct2 Tryz.underlying39 h0'
  have g0' : DataW.trod enc Tryz.prog W 0 (fun _ => true) true n' 3 [x0] = some z0 := g0
  have g1' : DataW.trod enc Tryz.prog W 0 (fun _ => true) true n' 37 [x1] = some z1 := g1
  obtain ⟨m, e0, -, -⟩ := DataW.trod_int Tryz.underlying3 g0'
  obtain rfl := List.singleton_inj.1 e0
  obtain ⟨q, c, l, e1, k1, k2, k3, k4⟩ := strs_b g1'
  obtain rfl := List.singleton_inj.1 e1
  obtain ⟨q2, n2, c2, e2⟩ := slice_form (by rfl) h1
  have e2' : [x2] = [Value.slice q2 n2 c2] := e2
  obtain rfl := List.singleton_inj.1 e2'
  obtain ⟨b, e3, -⟩ := DataW.trod_bool Tryz.underlying4 h2
  have e3' : [x3] = [Value.bool b] := e3
  obtain rfl := List.singleton_inj.1 e3'
  refine ⟨⟨⟨m, q, c, l⟩, q2, n2, c2, b⟩, rfl, ⟨k1, k2⟩, k3, ?_⟩
  rcases k4 with k4 | ⟨wt, hwt, hle⟩
  · exact .inl k4
  · refine .inr ⟨wt, ?_, hle⟩
    have w1 : wt ∈ y0.1.weights Tryz.prog 39 := by
      rw [congrArg Prod.fst hz]
      simp only [DataW.weights, Tryz.underlying39]
      exact DataW.weights_mem_each (j := 1) (t := 37) rfl rfl _ hwt
    rw [congrArg Prod.fst hx]
    simp only [DataW.weights, Tryz.underlying87]
    exact DataW.weights_mem_each (j := 0) (t := 39) rfl rfl _ w1
set_option maxRecDepth 100000 in
/-- A book among the arguments. -/
theorem read_book {H : Type} {enc : TypeId × Value → H} {W : World} {base : Nat} {v : Value} {d : DataW H} {p : List MemPlace} (hv : Value.okWide Tryz.prog W .any base 78 v) (h : DataW.Trod enc Tryz.prog W 0 (fun _ => true) true 78 v d p) (_hlt : ∀ x ∈ p, x.block < W.heap.size) (hr : ∀ n ∈ d.weights Tryz.prog 78, n ≤ reachBytes) :
    ∃ (q : Option Addr) (c : Nat) (fs : List FL) (q1 : Option Addr) (n1 c1 : Nat) (q2 : Option Addr) (n2 c2 : Nat), v = bookV q fs.length c q1 n1 c1 q2 n2 c2 ∧ fs.length ≤ maxLen ∧ (∀ j, j < fs.length → (fs.getD j default).g.small) ∧ (∀ j, (fs.getD j default).g.ws.length * 16 ≤ 140737488355328) ∧ FoundsAt W q fs := by
  obtain ⟨v0, v1, v2, y0, y1, y2, n, rfl, rfl, rfl, h0, h1, h2⟩ := open_agg3 Tryz.underlying78 (by kernel_rfl) (by kernel_rfl) hv h
  obtain ⟨q1, n1, c1, e1⟩ := slice_form (by rfl) h1
  obtain rfl := List.singleton_inj.1 e1
  obtain ⟨q2, n2, c2, e2⟩ := slice_form (by rfl) h2
  obtain rfl := List.singleton_inj.1 e2
  have hr0 : ∀ n ∈ y0.1.weights Tryz.prog 75, n ≤ reachBytes := fun n hn => hr n (by
    simp only [DataW.weights, Tryz.underlying78]
    exact DataW.weights_mem_each (j := 0) (t := 75) rfl rfl _ hn)
  have h0' : DataW.trod enc Tryz.prog W 0 (fun _ => true) true n 75 [v0] = some y0 := h0
  rcases open_slice Tryz.underlying75 h0' with ⟨hcs, hx⟩ | ⟨ad, len', cap', m, n', D, Pl, hcs, _, hl, hc, hm, hx, hi⟩
  · obtain rfl := List.singleton_inj.1 hcs
    exact ⟨none, 0, [], q1, n1, c1, q2, n2, c2, rfl, Nat.zero_le _, fun j hj => absurd hj (Nat.not_lt_zero _), fun j => Nat.zero_le _, .inl rfl, fun j hj => absurd hj (Nat.not_lt_zero _)⟩
  · obtain rfl := List.singleton_inj.1 hcs
    simp only [if_true] at hm
    subst hm
    rw [c87] at hi
    have each : ∀ i, i < len' → ∃ f : FL, W.cell? (ad.add (i * 4)) = some (.int .i64 f.g.n) ∧ W.cell? (ad.add (i * 4 + 1)) = some (.slice f.g.p f.g.ws.length f.g.cap) ∧ W.cell? (ad.add (i * 4 + 2)) = some (.slice f.cp f.cn f.cc) ∧ W.cell? (ad.add (i * 4 + 3)) = some (.bool f.rs) ∧ f.g.small ∧ StrsAt W f.g.p f.g.ws ∧ f.g.ws.length * 16 ≤ 140737488355328 := by
      intro i hil
      obtain ⟨cs', hcc, ht'⟩ := hi i (by omega)
      obtain ⟨f, rfl, g1, g2, g3⟩ := found_of ht'
      obtain ⟨_, hcl, hat⟩ := World.cells?_some hcc
      have a0 := hat 0 (by omega)
      have a1 := hat 1 (by omega)
      have a2 := hat 2 (by omega)
      have a3 := hat 3 (by omega)
      rw [addr_add_add] at a0 a1 a2 a3
      refine ⟨f, a0, a1, a2, a3, g1, g2, ?_⟩
      rcases g3 with g3 | ⟨wt, hwt, hle⟩
      · rw [g3]; exact Nat.zero_le _
      · have hx1 : y0.1 = DataW.slice ((List.range len').map D) ((List.range (m - len')).map fun j => D (len' + j)) := congrArg Prod.fst hx
        have h9 := hr0 wt (by
          rw [hx1]
          simp only [DataW.weights, Tryz.underlying75, List.mem_cons, List.mem_append]
          exact Or.inr (Or.inl (weightsAll_mem (d := D i) (List.mem_map.2 ⟨i, List.mem_range.2 hil, rfl⟩) _ hwt)))
        simp only [reachBytes] at h9
        omega
    obtain ⟨l, hll, hlp⟩ := choose_list each
    have at_ : ∀ j, j < l.length → l[j]? = some (l.getD j default) := fun j hj => by rw [List.getD, List.getElem?_eq_getElem hj]; rfl
    refine ⟨some ad, m, l, q1, n1, c1, q2, n2, c2, by rw [hll]; rfl, by omega, fun j hj => (hlp j _ (at_ j hj)).2.2.2.2.1, fun j => ?_, ?_, fun j hj => (hlp j _ (at_ j hj)).2.2.2.2.2.1⟩
    · by_cases hj : j < l.length
      · exact (hlp j _ (at_ j hj)).2.2.2.2.2.2
      · rw [List.getD, List.getElem?_eq_none (by omega)]; exact Nat.zero_le _
    · by_cases h00 : len' = 0
      · left; exact List.length_eq_zero_iff.1 (hll.trans h00)
      · obtain ⟨b, off, spot⟩ := ad
        obtain ⟨q0, hq0, _⟩ := each 0 (by omega)
        have hspot : spot = none := by simpa [Addr.add] using World.cell?_spot hq0
        subst hspot
        refine .inr ⟨b, off, rfl, World.block_lt_of_cell? W _ hq0, fun j hj => ?_⟩
        obtain ⟨u0, u1, u2, u3, -⟩ := hlp j _ (at_ j hj)
        rw [Addr.add_lit] at u0 u1 u2 u3
        rw [Nat.add_assoc, Nat.add_assoc, Nat.add_assoc]
        exact ⟨u0, u1, u2, u3⟩
end Go.Proofs.YtmfhpddeclggfaaGreatDoor
