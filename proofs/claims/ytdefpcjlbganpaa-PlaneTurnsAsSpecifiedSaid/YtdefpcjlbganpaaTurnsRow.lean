/-
  The statement PlaneTurnsAsSpecified is proved: the law of turns returns true for all points and numbers. No condition.
-/
import Derived.Test.YtdefpcjlbganpaaRows
import Derived.Test.YtdefpcjlbganpaaTurnsLaw
import Derived.WalkKit
import Derived.ProofKit
import Derived.OpenShut
import Derived.Lib.SmallJoins
namespace Go.Proofs.Ytdefpcjlbganpaa
open Go Go.ChangeShapes Go.WideShapes Go.RowKit Go.Joins Go.Deep
theorem Try.ownK : ownKnob Try.prog.godebug = none := by kernel_rfl
set_option maxRecDepth 100000 in
theorem i64_of {n : Int} (h : (Lit.int .i64 n).wf = true) : -9223372036854775808 ≤ n ∧ n ≤ 9223372036854775807 := by
  simp only [Lit.wf, IntKind.min, IntKind.max, IntKind.signed, IntKind.bits, Bool.and_eq_true, decide_eq_true_eq, if_true] at h
  omega
set_option maxRecDepth 100000 in
/-- A point among the arguments. -/
theorem read_pt {H : Type} {enc : TypeId × Value → H} {W : World} {base b0 : Nat} {sp : Nat → Bool} {hd : Bool} {v : Value} {d : DataW H} {p : List MemPlace} (hv : Value.okWide Try.prog W .any base 23 v) (h : DataW.Trod enc Try.prog W b0 sp hd 23 v d p) :
    ∃ q : Pt, v = q.v ∧ p = [] ∧ ∀ (W' : World) (b : Nat) (sp' : Nat → Bool) (hd' : Bool), DataW.Trod enc Try.prog W' b sp' hd' 23 q.v d [] := by
  obtain ⟨v0, v1, y0, y1, n, rfl, rfl, rfl, h0, h1⟩ := open_agg2 Try.underlying23 (by kernel_rfl) (by kernel_rfl) hv h
  obtain ⟨x, e0, rfl, wx⟩ := DataW.trod_int Try.underlying3 h0
  obtain ⟨y, e1, rfl, wy⟩ := DataW.trod_int Try.underlying3 h1
  obtain rfl := List.singleton_inj.1 e0
  obtain rfl := List.singleton_inj.1 e1
  refine ⟨⟨x, y⟩, rfl, rfl, fun W' b sp' hd' => ?_⟩
  exact shut_agg2 (y0 := (.lit (.int .i64 x), [])) (y1 := (.lit (.int .i64 y), [])) Try.underlying23 (by kernel_rfl) (by kernel_rfl) ⟨1, trod_int_mk 0 Try.underlying3 wx⟩ ⟨1, trod_int_mk 0 Try.underlying3 wy⟩
set_option maxRecDepth 100000 in
theorem turns_lifted (os : Os) (started : os.Started) (H : Type) (enc : TypeId × Value → H) :
    ReturnsInHanded {} Try.checked os 3 .any (Rows.planeTurnsAsSpecifiedSpec.pre6 enc Try.prog Try.f3 Rows.planeTurnsAsSpecifiedRow.domain false) (Rows.planeTurnsAsSpecifiedSpec.post enc Try.prog Try.f3 false true false false) := by
  refine returnsInHanded_of_change (C := Try.checked) Try.ownK started (by kernel_rfl) Try.func3
    (ChangeSpec.witness6 (enc := enc) (C := Try.checked) false ⟨#[], #[.agg #[.int .i64 0, .int .i64 0], .agg #[.int .i64 0, .int .i64 0], .agg #[.int .i64 0, .int .i64 0], .int .i64 0], []⟩ 8 (by kernel_rfl) (by kernel_rfl) (by kernel_rfl) (by kernel_rfl)) ?_
  intro W base args ds gs before hval0 hW hcnd _
  have hval : ∀ (j : Nat) t v, Try.f3.params[j]? = some t → args[j]? = some v → Value.okWide Try.prog W .any base t v := hval0
  have hW' := hW
  obtain ⟨p, q, hA0, hV, rfl, hfz, hnd⟩ := hW
  have hA : DataW.TrodAll enc Try.prog W 0 (fun _ => true) true Try.f3.params.toList args.toList ds p := hA0
  rw [Try.params3] at hA hval
  obtain ⟨v0, vs0, d0, ds0, p0, q0, hargs, rfl, rfl, h0, r0⟩ := trodAll_cons hA
  obtain ⟨v1, vs1, d1, ds1, p1, q1, rfl, rfl, rfl, h1, r1⟩ := trodAll_cons r0
  obtain ⟨v2, vs2, d2, ds2, p2, q2, rfl, rfl, rfl, h2, r2⟩ := trodAll_cons r1
  obtain ⟨v3, vs3, d3, ds3, p3, q3, rfl, rfl, rfl, h3, r3⟩ := trodAll_cons r2
  obtain ⟨rfl, rfl, rfl⟩ := trodAll_nil r3
  obtain rfl : args = #[v0, v1, v2, v3] := by cases args; simp_all
  obtain ⟨rfl, rfl⟩ := trodVars_none hV
  obtain ⟨a, rfl, rfl, s0⟩ := read_pt (hval 0 23 v0 rfl rfl) h0
  obtain ⟨b, rfl, rfl, s1⟩ := read_pt (hval 1 23 v1 rfl rfl) h1
  obtain ⟨c, rfl, rfl, s2⟩ := read_pt (hval 2 23 v2 rfl rfl) h2
  obtain ⟨n, rfl, rfl, rfl, w3⟩ := open_int Try.underlying3 (hval 3 3 v3 rfl rfl) h3
  clear hA0 hval0
  simp only [List.append_nil] at hW'
  refine (turnsLaw a b c n W (i64_of w3)).mono fun e W' ⟨he, hg⟩ => ?_
  subst he
  refine ⟨_, rfl, _, _, _, [], [], [], hW', ?_, ?_, ?_, hg.frame _, fun h => by cases h⟩
  · exact trodAll_mk1 (shut_bool Try.underlying4 true)
  · exact trodAll_cons_mk (s0 _ _ _ _) (trodAll_cons_mk (s1 _ _ _ _) (trodAll_cons_mk (s2 _ _ _ _) (trodAll_cons_mk (shut_int Try.underlying3 w3) trodAll_mk0)))
  · rfl
/-! Closed facts of the row. -/
theorem turns_c1 : Try.pinned.checked.prog.funcNamed Rows.planeTurnsAsSpecifiedRow.func = some 3 := by kernel_rfl
theorem turns_c2 : joinedFacts Try.pinned.checked.prog 3 Try.f3 Rows.planeTurnsAsSpecifiedSpec Rows.planeTurnsAsSpecifiedRow = true := by kernel_rfl
theorem turns_c3 : Try.f3.isInstance Try.pinned.checked.prog Rows.planeTurnsAsSpecifiedRow.origin Rows.planeTurnsAsSpecifiedRow.targs := of_decide_eq_true (by kernel_rfl)
theorem turns_c4 : Try.f3.isWrapper Try.pinned.checked.prog Rows.planeTurnsAsSpecifiedRow.wrapper Rows.planeTurnsAsSpecifiedRow.mainSum := by
  unfold Func.isWrapper; first | (rw [if_pos (by decide +kernel)]; kernel_rfl) | (rw [if_neg (by decide +kernel)]; exact ⟨rfl, rfl⟩)
/-- The law of turns holds. -/
theorem planeTurnsAsSpecified_holds : Rows.PlaneTurnsAsSpecifiedSaid :=
  OpenClaim.holds_of_wide 3 Try.f3 rfl rfl rfl rfl rfl rfl rfl ⟨rfl, rfl, rfl, rfl, rfl⟩ rfl rfl rfl rfl rfl turns_c1 Try.func3 turns_c2 turns_c3 turns_c4
    (fun os started H enc _ => turns_lifted os started H enc)
end Go.Proofs.Ytdefpcjlbganpaa
