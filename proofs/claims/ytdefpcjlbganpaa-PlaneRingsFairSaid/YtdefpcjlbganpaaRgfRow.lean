/-
  The statement PlaneRingsFair is proved: what Area, Winding, Simple and Where answer fits together, for a polygon and its turned and reversed lists. No condition.
-/
import Derived.Test.YtdefpcjlbganpaaRdL
import Derived.Test.YtdefpcjlbganpaaJN
import Derived.Test.YtdefpcjlbganpaaJF
import Derived.WalkKit
import Derived.ProofKit
import Derived.OpenShut
import Derived.Lib.SmallJoins
namespace Go.Proofs.Ytdefpcjlbganpaa
open Go Go.ChangeShapes Go.WideShapes Go.RowKit Go.Joins Go.Deep
theorem Try.ownKrgf : ownKnob Try.prog.godebug = none := by kernel_rfl
set_option maxRecDepth 100000 in
theorem rgf_lifted (os : Os) (started : os.Started) (H : Type) (enc : TypeId × Value → H) :
    ReturnsInHanded {} Try.checked os 12 .any (Rows.planeRingsFairSpec.pre6 enc Try.prog Try.f12 Rows.planeRingsFairRow.domain false) (Rows.planeRingsFairSpec.post enc Try.prog Try.f12 false true false false) := by
  refine returnsInHanded_of_change_sized (C := Try.checked) Try.ownKrgf started (by kernel_rfl) Try.func12
    (ChangeSpec.witness6 (enc := enc) (C := Try.checked) false ⟨#[], #[.slice none 0 0, .agg #[.int .i64 0, .int .i64 0]], []⟩ 8 (by kernel_rfl) (by kernel_rfl) (by kernel_rfl) (by kernel_rfl)) ?_
  intro W base args ds gs before hval0 hW _ hsz0 _
  have hsz : (DataW.weightsEach Try.prog (Try.f12.params.toList ++ Rows.planeRingsFairSpec.plain.varTypes Try.prog) (ds ++ gs)).all (· ≤ reachBytes) = true := hsz0
  clear hsz0
  have hval : ∀ (j : Nat) t v, Try.f12.params[j]? = some t → args[j]? = some v → Value.okWide Try.prog W .any base t v := hval0
  have hW' := hW
  obtain ⟨p, q, hA0, hV, rfl, hfz, hnd⟩ := hW
  have hA : DataW.TrodAll enc Try.prog W 0 (fun _ => true) true Try.f12.params.toList args.toList ds p := hA0
  rw [Try.params12] at hA hval hsz
  obtain ⟨v0, vs0, d0, ds0, p0, q0, hargs, rfl, rfl, h0, r0⟩ := trodAll_cons hA
  obtain ⟨v1, vs1, d1, ds1, p1, q1, rfl, rfl, rfl, h1, r1⟩ := trodAll_cons r0
  obtain ⟨rfl, rfl, rfl⟩ := trodAll_nil r1
  obtain rfl : args = #[v0, v1] := by cases args; simp_all
  obtain ⟨rfl, rfl⟩ := trodVars_none hV
  have hlt : ∀ x ∈ p0 ++ (p1 ++ []), x.block < W.heap.size := fun x hx => hW'.lt x (by simpa using hx)
  have k0 := h0
  have l0 : ∀ x ∈ p0, x.block < W.heap.size := fun x hx => hlt x (by simp [hx])
  have k1 := h1
  have l1 : ∀ x ∈ p1, x.block < W.heap.size := fun x hx => hlt x (by simp [hx])
  obtain ⟨q0, n0, c0, rfl⟩ := okWide_slice Try.underlying35 (hval 0 35 v0 rfl rfl)
  obtain ⟨a0, rfl, hp0, hd0⟩ := read_pts h0 l0
  have hb0 : a0.length ≤ 140737488355327 := by
    rcases hd0 with h | ⟨es, sp, rfl, he⟩
    · omega
    · have := sized_slice hsz (j := 0) (t := 35) (e := 23) rfl rfl Try.underlying35
      rw [Try.bytesOf23] at this
      simp only [reachBytes] at this
      omega
  obtain ⟨a1, rfl, _, _⟩ := Flat.pt (hval 1 23 v1 rfl rfl) h1
  clear hA0 hval0
  refine (rfLaw q0 c0 a0 a1 W hb0 hp0).mono fun e W' ⟨he, hg⟩ => ?_
  subst he
  refine ⟨_, rfl, _, _, _, [], p0 ++ (p1 ++ []), [], hW', ?_, ?_, ?_, hg.frame _, fun h => by cases h⟩
  · exact trodAll_mk1 (shut_bool Try.underlying4 true)
  · exact (trodAll_cons_mk (Below.trod Try.laidOutB (by kernel_rfl) (of_decide_eq_true (by kernel_rfl)) k0 hg l0) (trodAll_cons_mk (Below.trod Try.laidOutB (by kernel_rfl) (of_decide_eq_true (by kernel_rfl)) k1 hg l1) trodAll_mk0))
  · rfl
/-! Closed facts of the row. -/
theorem rgf_c1 : Try.pinned.checked.prog.funcNamed Rows.planeRingsFairRow.func = some 12 := by kernel_rfl
theorem rgf_make (x) (h : x = Rows.planeCutsDivideRow.make) : (Try.pinned.checked.prog.make == some x) = true := by rw [h]; exact jf_make0
set_option maxHeartbeats 100000000 in
theorem rgf_c2 : joinedFacts Try.pinned.checked.prog 12 Try.f12 Rows.planeRingsFairSpec Rows.planeRingsFairRow = true := by
  unfold joinedFacts
  repeat' (with_reducible apply and_mk)
  all_goals first
  | with_reducible exact jf_laid
  | with_reducible exact jf_stops
  | with_reducible exact jf_enter
  | (with_reducible refine jf_lift _ ?_; kernel_rfl)
  | (with_reducible refine rgf_make _ ?_; kernel_rfl)
  | (as_aux_lemma => kernel_rfl)
theorem rgf_c3 : Try.f12.isInstance Try.pinned.checked.prog Rows.planeRingsFairRow.origin Rows.planeRingsFairRow.targs := of_decide_eq_true (by kernel_rfl)
theorem rgf_c4 : Try.f12.isWrapper Try.pinned.checked.prog Rows.planeRingsFairRow.wrapper Rows.planeRingsFairRow.mainSum := by
  unfold Func.isWrapper; first | (rw [if_pos (by decide +kernel)]; kernel_rfl) | (rw [if_neg (by decide +kernel)]; exact ⟨rfl, rfl⟩)
/-- The law holds. -/
theorem planeRingsFair_holds : Rows.PlaneRingsFairSaid :=
  OpenClaim.holds_of_wide 12 Try.f12 rfl rfl rfl rfl rfl rfl rfl ⟨rfl, rfl, rfl, rfl, rfl⟩ rfl rfl rfl rfl rfl rgf_c1 Try.func12 rgf_c2 rgf_c3 rgf_c4
    (fun os started H enc _ => rgf_lifted os started H enc)
end Go.Proofs.Ytdefpcjlbganpaa
