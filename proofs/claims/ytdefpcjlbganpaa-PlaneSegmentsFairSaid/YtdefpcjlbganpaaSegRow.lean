/-
  The statement PlaneSegmentsFair is proved: the law of fair segments returns true for all segments. No condition.
-/
import Derived.Test.YtdefpcjlbganpaaRd
import Derived.Test.YtdefpcjlbganpaaSegLaw
import Derived.WalkKit
import Derived.ProofKit
import Derived.OpenShut
import Derived.Lib.SmallJoins
namespace Go.Proofs.Ytdefpcjlbganpaa
open Go Go.ChangeShapes Go.WideShapes Go.RowKit Go.Joins Go.Deep
theorem Try.ownKseg : ownKnob Try.prog.godebug = none := by kernel_rfl
set_option maxRecDepth 100000 in
theorem seg_lifted (os : Os) (started : os.Started) (H : Type) (enc : TypeId × Value → H) :
    ReturnsInHanded {} Try.checked os 11 .any (Rows.planeSegmentsFairSpec.pre6 enc Try.prog Try.f11 Rows.planeSegmentsFairRow.domain false) (Rows.planeSegmentsFairSpec.post enc Try.prog Try.f11 false true false false) := by
  refine returnsInHanded_of_change (C := Try.checked) Try.ownKseg started (by kernel_rfl) Try.func11
    (ChangeSpec.witness6 (enc := enc) (C := Try.checked) false ⟨#[], #[.agg #[.int .i64 0, .int .i64 0, .int .i64 0, .int .i64 0], .agg #[.int .i64 0, .int .i64 0, .int .i64 0, .int .i64 0]], []⟩ 8 (by kernel_rfl) (by kernel_rfl) (by kernel_rfl) (by kernel_rfl)) ?_
  intro W base args ds gs before hval0 hW hcnd _
  have hval : ∀ (j : Nat) t v, Try.f11.params[j]? = some t → args[j]? = some v → Value.okWide Try.prog W .any base t v := hval0
  have hW' := hW
  obtain ⟨p, q, hA0, hV, rfl, hfz, hnd⟩ := hW
  have hA : DataW.TrodAll enc Try.prog W 0 (fun _ => true) true Try.f11.params.toList args.toList ds p := hA0
  rw [Try.params11] at hA hval
  obtain ⟨v0, vs0, d0, ds0, p0, q0, hargs, rfl, rfl, h0, r0⟩ := trodAll_cons hA
  obtain ⟨v1, vs1, d1, ds1, p1, q1, rfl, rfl, rfl, h1, r1⟩ := trodAll_cons r0
  obtain ⟨rfl, rfl, rfl⟩ := trodAll_nil r1
  obtain rfl : args = #[v0, v1] := by cases args; simp_all
  obtain ⟨rfl, rfl⟩ := trodVars_none hV
  obtain ⟨a0, rfl, rfl, s0⟩ := read_sg (hval 0 31 v0 rfl rfl) h0
  obtain ⟨a1, rfl, rfl, s1⟩ := read_sg (hval 1 31 v1 rfl rfl) h1
  clear hA0 hval0
  simp only [List.append_nil] at hW'
  refine (segLaw a0 a1 W ).mono fun e W' ⟨he, hg⟩ => ?_
  subst he
  refine ⟨_, rfl, _, _, _, [], [], [], hW', ?_, ?_, ?_, hg.frame _, fun h => by cases h⟩
  · exact trodAll_mk1 (shut_bool Try.underlying4 true)
  · exact (trodAll_cons_mk (s0 _ _ _ _) (trodAll_cons_mk (s1 _ _ _ _) trodAll_mk0))
  · rfl
/-! Closed facts of the row. -/
theorem seg_c1 : Try.pinned.checked.prog.funcNamed Rows.planeSegmentsFairRow.func = some 11 := by kernel_rfl
theorem seg_c2 : joinedFacts Try.pinned.checked.prog 11 Try.f11 Rows.planeSegmentsFairSpec Rows.planeSegmentsFairRow = true := by kernel_rfl
theorem seg_c3 : Try.f11.isInstance Try.pinned.checked.prog Rows.planeSegmentsFairRow.origin Rows.planeSegmentsFairRow.targs := of_decide_eq_true (by kernel_rfl)
theorem seg_c4 : Try.f11.isWrapper Try.pinned.checked.prog Rows.planeSegmentsFairRow.wrapper Rows.planeSegmentsFairRow.mainSum := by
  unfold Func.isWrapper; first | (rw [if_pos (by decide +kernel)]; kernel_rfl) | (rw [if_neg (by decide +kernel)]; exact ⟨rfl, rfl⟩)
/-- The law holds. -/
theorem planeSegmentsFair_holds : Rows.PlaneSegmentsFairSaid :=
  OpenClaim.holds_of_wide 11 Try.f11 rfl rfl rfl rfl rfl rfl rfl ⟨rfl, rfl, rfl, rfl, rfl⟩ rfl rfl rfl rfl rfl seg_c1 Try.func11 seg_c2 seg_c3 seg_c4
    (fun os started H enc _ => seg_lifted os started H enc)
end Go.Proofs.Ytdefpcjlbganpaa
