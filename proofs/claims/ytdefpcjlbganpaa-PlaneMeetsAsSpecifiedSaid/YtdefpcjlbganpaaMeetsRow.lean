/-
  The statement PlaneMeetsAsSpecified is proved: the law of segments as specified returns true for all segments and points. No condition.
-/
import Derived.Test.YtdefpcjlbganpaaRd
import Derived.Test.YtdefpcjlbganpaaMeetsLaw
import Derived.WalkKit
import Derived.ProofKit
import Derived.OpenShut
import Derived.Lib.SmallJoins
namespace Go.Proofs.Ytdefpcjlbganpaa
open Go Go.ChangeShapes Go.WideShapes Go.RowKit Go.Joins Go.Deep
theorem Try.ownKmeets : ownKnob Try.prog.godebug = none := by kernel_rfl
set_option maxRecDepth 100000 in
theorem meets_lifted (os : Os) (started : os.Started) (H : Type) (enc : TypeId × Value → H) :
    ReturnsInHanded {} Try.checked os 4 .any (Rows.planeMeetsAsSpecifiedSpec.pre6 enc Try.prog Try.f4 Rows.planeMeetsAsSpecifiedRow.domain false) (Rows.planeMeetsAsSpecifiedSpec.post enc Try.prog Try.f4 false true false false) := by
  refine returnsInHanded_of_change (C := Try.checked) Try.ownKmeets started (by kernel_rfl) Try.func4
    (ChangeSpec.witness6 (enc := enc) (C := Try.checked) false ⟨#[], #[.agg #[.int .i64 0, .int .i64 0, .int .i64 0, .int .i64 0], .agg #[.int .i64 0, .int .i64 0, .int .i64 0, .int .i64 0], .agg #[.int .i64 0, .int .i64 0]], []⟩ 8 (by kernel_rfl) (by kernel_rfl) (by kernel_rfl) (by kernel_rfl)) ?_
  intro W base args ds gs before hval0 hW hcnd _
  have hval : ∀ (j : Nat) t v, Try.f4.params[j]? = some t → args[j]? = some v → Value.okWide Try.prog W .any base t v := hval0
  have hW' := hW
  obtain ⟨p, q, hA0, hV, rfl, hfz, hnd⟩ := hW
  have hA : DataW.TrodAll enc Try.prog W 0 (fun _ => true) true Try.f4.params.toList args.toList ds p := hA0
  rw [Try.params4] at hA hval
  obtain ⟨v0, vs0, d0, ds0, p0, q0, hargs, rfl, rfl, h0, r0⟩ := trodAll_cons hA
  obtain ⟨v1, vs1, d1, ds1, p1, q1, rfl, rfl, rfl, h1, r1⟩ := trodAll_cons r0
  obtain ⟨v2, vs2, d2, ds2, p2, q2, rfl, rfl, rfl, h2, r2⟩ := trodAll_cons r1
  obtain ⟨rfl, rfl, rfl⟩ := trodAll_nil r2
  obtain rfl : args = #[v0, v1, v2] := by cases args; simp_all
  obtain ⟨rfl, rfl⟩ := trodVars_none hV
  obtain ⟨a0, rfl, rfl, s0⟩ := read_sg (hval 0 31 v0 rfl rfl) h0
  obtain ⟨a1, rfl, rfl, s1⟩ := read_sg (hval 1 31 v1 rfl rfl) h1
  obtain ⟨a2, rfl, rfl, s2⟩ := Flat.pt (hval 2 23 v2 rfl rfl) h2
  clear hA0 hval0
  simp only [List.append_nil] at hW'
  refine (meetsLaw a0 a1 a2 W ).mono fun e W' ⟨he, hg⟩ => ?_
  subst he
  refine ⟨_, rfl, _, _, _, [], [], [], hW', ?_, ?_, ?_, hg.frame _, fun h => by cases h⟩
  · exact trodAll_mk1 (shut_bool Try.underlying4 true)
  · exact (trodAll_cons_mk (s0 _ _ _ _) (trodAll_cons_mk (s1 _ _ _ _) (trodAll_cons_mk (s2 _ _ _ _) trodAll_mk0)))
  · rfl
/-! Closed facts of the row. -/
theorem meets_c1 : Try.pinned.checked.prog.funcNamed Rows.planeMeetsAsSpecifiedRow.func = some 4 := by kernel_rfl
theorem meets_c2 : joinedFacts Try.pinned.checked.prog 4 Try.f4 Rows.planeMeetsAsSpecifiedSpec Rows.planeMeetsAsSpecifiedRow = true := by kernel_rfl
theorem meets_c3 : Try.f4.isInstance Try.pinned.checked.prog Rows.planeMeetsAsSpecifiedRow.origin Rows.planeMeetsAsSpecifiedRow.targs := of_decide_eq_true (by kernel_rfl)
theorem meets_c4 : Try.f4.isWrapper Try.pinned.checked.prog Rows.planeMeetsAsSpecifiedRow.wrapper Rows.planeMeetsAsSpecifiedRow.mainSum := by
  unfold Func.isWrapper; first | (rw [if_pos (by decide +kernel)]; kernel_rfl) | (rw [if_neg (by decide +kernel)]; exact ⟨rfl, rfl⟩)
/-- The law holds. -/
theorem planeMeetsAsSpecified_holds : Rows.PlaneMeetsAsSpecifiedSaid :=
  OpenClaim.holds_of_wide 4 Try.f4 rfl rfl rfl rfl rfl rfl rfl ⟨rfl, rfl, rfl, rfl, rfl⟩ rfl rfl rfl rfl rfl meets_c1 Try.func4 meets_c2 meets_c3 meets_c4
    (fun os started H enc _ => meets_lifted os started H enc)
end Go.Proofs.Ytdefpcjlbganpaa
