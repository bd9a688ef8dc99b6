import Derived.Test.YtdefpcjlbganpaaRows
import Derived.Test.YtdefpcjlbganpaaTurnsLaw
import Derived.WalkKit
import Derived.ProofKit
import Derived.OpenShut
import Derived.Lib.SmallJoins
import Derived.Deep.Slices
namespace Go.Proofs.Ytdefpcjlbganpaa
open Go Go.ChangeShapes Go.WideShapes Go.RowKit Go.Joins Go.Deep
set_option maxRecDepth 100000 in
theorem i64_wf {n : Int} (h : (Lit.int .i64 n).wf = true) : -9223372036854775808 ≤ n ∧ n ≤ 9223372036854775807 := bounds_i64 h
/-- These cells read as this, in whatever world. -/
def Flat {H : Type} (enc : TypeId × Value → H) (T : TypeId) (cs : List Value) (d : DataW H) : Prop :=
  ∀ (W : World) (b : Nat) (sp : Nat → Bool) (hd : Bool), ∃ n, DataW.trod enc Try.prog W b sp hd n T cs = some (d, [])
set_option maxRecDepth 100000 in
theorem flat_pt {H : Type} {enc : TypeId × Value → H} {W : World} {b0 : Nat} {sp : Nat → Bool} {hd : Bool} {fuel : Nat} {cs : List Value} {x : DataW H × List MemPlace} (h : DataW.trod enc Try.prog W b0 sp hd fuel 23 cs = some x) :
    ∃ q : Pt, cs = [.int .i64 q.x, .int .i64 q.y] ∧ x.2 = [] ∧ Flat enc 23 cs x.1 := by
  obtain ⟨y0, y1, n, rfl, hl, h0, h1⟩ := trod_struct2 Try.underlying23 h
  have hc : Try.prog.cellsOf 23 = 2 := by kernel_rfl
  have hc3 : Try.prog.cellsOf 3 = 1 := by kernel_rfl
  rw [hc] at hl
  match cs, hl with
  | [c0, c1], _ =>
    have h0' : DataW.trod enc Try.prog W b0 sp hd n 3 [c0] = some y0 := by simpa [hc3] using h0
    have h1' : DataW.trod enc Try.prog W b0 sp hd n 3 [c1] = some y1 := by simpa [hc3] using h1
    obtain ⟨u, e0, rfl, wx⟩ := DataW.trod_int Try.underlying3 h0'
    obtain ⟨v, e1, rfl, wy⟩ := DataW.trod_int Try.underlying3 h1'
    obtain rfl := List.singleton_inj.1 e0
    obtain rfl := List.singleton_inj.1 e1
    refine ⟨⟨u, v⟩, rfl, rfl, fun W' b sp' hd' => ⟨2, ?_⟩⟩
    have := trod_struct2_mk (enc := enc) (w := W') (base := b) (spare := sp') (held := hd') (n := 1) (cs := [.int .i64 u, .int .i64 v]) (y0 := (.lit (.int .i64 u), [])) (y1 := (.lit (.int .i64 v), [])) Try.underlying23 (by rw [hc]; rfl)
      (by simpa [hc3] using trod_int_mk 0 Try.underlying3 wx) (by simpa [hc3] using trod_int_mk 0 Try.underlying3 wy)
    simpa using this
set_option maxRecDepth 100000 in
theorem flat_sp {H : Type} {enc : TypeId × Value → H} {W : World} {b0 : Nat} {sp : Nat → Bool} {hd : Bool} {fuel : Nat} {cs : List Value} {x : DataW H × List MemPlace} (h : DataW.trod enc Try.prog W b0 sp hd fuel 58 cs = some x) :
    ∃ q : Sp, cs = [.int .i64 q.lo, .int .i64 q.hi] ∧ x.2 = [] ∧ Flat enc 58 cs x.1 := by
  obtain ⟨y0, y1, n, rfl, hl, h0, h1⟩ := trod_struct2 Try.underlying58 h
  have hc : Try.prog.cellsOf 58 = 2 := by kernel_rfl
  have hc3 : Try.prog.cellsOf 3 = 1 := by kernel_rfl
  rw [hc] at hl
  match cs, hl with
  | [c0, c1], _ =>
    have h0' : DataW.trod enc Try.prog W b0 sp hd n 3 [c0] = some y0 := by simpa [hc3] using h0
    have h1' : DataW.trod enc Try.prog W b0 sp hd n 3 [c1] = some y1 := by simpa [hc3] using h1
    obtain ⟨u, e0, rfl, wx⟩ := DataW.trod_int Try.underlying3 h0'
    obtain ⟨v, e1, rfl, wy⟩ := DataW.trod_int Try.underlying3 h1'
    obtain rfl := List.singleton_inj.1 e0
    obtain rfl := List.singleton_inj.1 e1
    refine ⟨⟨u, v⟩, rfl, rfl, fun W' b sp' hd' => ⟨2, ?_⟩⟩
    have := trod_struct2_mk (enc := enc) (w := W') (base := b) (spare := sp') (held := hd') (n := 1) (cs := [.int .i64 u, .int .i64 v]) (y0 := (.lit (.int .i64 u), [])) (y1 := (.lit (.int .i64 v), [])) Try.underlying58 (by rw [hc]; rfl)
      (by simpa [hc3] using trod_int_mk 0 Try.underlying3 wx) (by simpa [hc3] using trod_int_mk 0 Try.underlying3 wy)
    simpa using this
set_option maxRecDepth 100000 in
/-- A segment among the arguments. -/
theorem read_sg {H : Type} {enc : TypeId × Value → H} {W : World} {base b0 : Nat} {sp : Nat → Bool} {hd : Bool} {v : Value} {d : DataW H} {p : List MemPlace} (hv : Value.okWide Try.prog W .any base 31 v) (h : DataW.Trod enc Try.prog W b0 sp hd 31 v d p) :
    ∃ q : Sg, v = q.v ∧ p = [] ∧ ∀ (W' : World) (b : Nat) (sp' : Nat → Bool) (hd' : Bool), DataW.Trod enc Try.prog W' b sp' hd' 31 q.v d [] := by
  obtain ⟨cs, rfl, hsz⟩ := okWide_struct Try.underlying31 hv
  obtain ⟨fuel, hf⟩ := h
  obtain ⟨y0, y1, n, hx, hl, h0, h1⟩ := trod_struct2 Try.underlying31 hf
  have hc : Try.prog.cellsOf 31 = 4 := by kernel_rfl
  have hc3 : Try.prog.cellsOf 23 = 2 := by kernel_rfl
  obtain ⟨c0, c1, c2, c3, rfl⟩ := array4 (hsz.trans hc)
  have h0' : DataW.trod enc Try.prog W b0 sp hd n 23 [c0, c1] = some y0 := by simpa [Value.cells, hc3] using h0
  have h1' : DataW.trod enc Try.prog W b0 sp hd n 23 [c2, c3] = some y1 := by simpa [Value.cells, hc3] using h1
  obtain ⟨q0, e0, p0, F0⟩ := flat_pt h0'
  obtain ⟨q1, e1, p1, F1⟩ := flat_pt h1'
  obtain ⟨rfl, rfl⟩ : c0 = _ ∧ c1 = _ := by simpa using e0
  obtain ⟨rfl, rfl⟩ : c2 = _ ∧ c3 = _ := by simpa using e1
  simp only [Prod.mk.injEq, p0, p1] at hx
  obtain ⟨rfl, rfl⟩ := hx
  refine ⟨⟨q0, q1⟩, rfl, rfl, fun W' b sp' hd' => ?_⟩
  obtain ⟨m0, g0⟩ := F0 W' b sp' hd'
  obtain ⟨m1, g1⟩ := F1 W' b sp' hd'
  have := trod_struct2_mk (enc := enc) (w := W') (base := b) (spare := sp') (held := hd') (n := max m0 m1) (cs := [.int .i64 q0.x, .int .i64 q0.y, .int .i64 q1.x, .int .i64 q1.y]) (y0 := (y0.1, [])) (y1 := (y1.1, [])) Try.underlying31 (by rw [hc]; rfl)
    (by simpa [hc3] using DataW.trod_le (Nat.le_max_left m0 m1) g0) (by simpa [hc3] using DataW.trod_le (Nat.le_max_right m0 m1) g1)
  exact ⟨_, by simpa [Value.cells] using this⟩
set_option maxRecDepth 100000 in
/-- A box among the arguments. -/
theorem read_bx {H : Type} {enc : TypeId × Value → H} {W : World} {base b0 : Nat} {sp : Nat → Bool} {hd : Bool} {v : Value} {d : DataW H} {p : List MemPlace} (hv : Value.okWide Try.prog W .any base 60 v) (h : DataW.Trod enc Try.prog W b0 sp hd 60 v d p) :
    ∃ q : Bx, v = q.v ∧ p = [] ∧ ∀ (W' : World) (b : Nat) (sp' : Nat → Bool) (hd' : Bool), DataW.Trod enc Try.prog W' b sp' hd' 60 q.v d [] := by
  obtain ⟨cs, rfl, hsz⟩ := okWide_struct Try.underlying60 hv
  obtain ⟨fuel, hf⟩ := h
  obtain ⟨y0, y1, n, hx, hl, h0, h1⟩ := trod_struct2 Try.underlying60 hf
  have hc : Try.prog.cellsOf 60 = 4 := by kernel_rfl
  have hc3 : Try.prog.cellsOf 58 = 2 := by kernel_rfl
  obtain ⟨c0, c1, c2, c3, rfl⟩ := array4 (hsz.trans hc)
  have h0' : DataW.trod enc Try.prog W b0 sp hd n 58 [c0, c1] = some y0 := by simpa [Value.cells, hc3] using h0
  have h1' : DataW.trod enc Try.prog W b0 sp hd n 58 [c2, c3] = some y1 := by simpa [Value.cells, hc3] using h1
  obtain ⟨q0, e0, p0, F0⟩ := flat_sp h0'
  obtain ⟨q1, e1, p1, F1⟩ := flat_sp h1'
  obtain ⟨rfl, rfl⟩ : c0 = _ ∧ c1 = _ := by simpa using e0
  obtain ⟨rfl, rfl⟩ : c2 = _ ∧ c3 = _ := by simpa using e1
  simp only [Prod.mk.injEq, p0, p1] at hx
  obtain ⟨rfl, rfl⟩ := hx
  refine ⟨⟨q0, q1⟩, rfl, rfl, fun W' b sp' hd' => ?_⟩
  obtain ⟨m0, g0⟩ := F0 W' b sp' hd'
  obtain ⟨m1, g1⟩ := F1 W' b sp' hd'
  have := trod_struct2_mk (enc := enc) (w := W') (base := b) (spare := sp') (held := hd') (n := max m0 m1) (cs := [.int .i64 q0.lo, .int .i64 q0.hi, .int .i64 q1.lo, .int .i64 q1.hi]) (y0 := (y0.1, [])) (y1 := (y1.1, [])) Try.underlying60 (by rw [hc]; rfl)
    (by simpa [hc3] using DataW.trod_le (Nat.le_max_left m0 m1) g0) (by simpa [hc3] using DataW.trod_le (Nat.le_max_right m0 m1) g1)
  exact ⟨_, by simpa [Value.cells] using this⟩
set_option maxRecDepth 100000 in
theorem Flat.pt {H : Type} {enc : TypeId × Value → H} {W : World} {base b0 : Nat} {sp : Nat → Bool} {hd : Bool} {v : Value} {d : DataW H} {p : List MemPlace} (hv : Value.okWide Try.prog W .any base 23 v) (h : DataW.Trod enc Try.prog W b0 sp hd 23 v d p) :
    ∃ q : Pt, v = q.v ∧ p = [] ∧ ∀ (W' : World) (b : Nat) (sp' : Nat → Bool) (hd' : Bool), DataW.Trod enc Try.prog W' b sp' hd' 23 q.v d [] := by
  obtain ⟨cs, rfl, hsz⟩ := okWide_struct Try.underlying23 hv
  obtain ⟨fuel, hf⟩ := h
  obtain ⟨q, e, p0, F⟩ := flat_pt hf
  obtain ⟨l⟩ := cs
  have e' : l = _ := e
  subst e'
  refine ⟨q, rfl, p0, fun W' b sp' hd' => ?_⟩
  obtain ⟨m, g⟩ := F W' b sp' hd'
  exact ⟨m, g⟩
end Go.Proofs.Ytdefpcjlbganpaa
