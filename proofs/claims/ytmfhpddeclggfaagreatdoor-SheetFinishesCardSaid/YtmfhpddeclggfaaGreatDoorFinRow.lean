/-
  The statement SheetFinishes is proved: Whole and Fair answer as the reference does. No condition of its own (the package variables start as the program lays them: the card ties them).
-/
import Derived.Test.YtmfhpddeclggfaaGreatDoorKr
import Derived.Test.YtmfhpddeclggfaaGreatDoorRowM
import Derived.Test.YtmfhpddeclggfaaGreatDoorFinLaw
import Derived.Test.YtmfhpddeclggfaaGreatDoorRowB
namespace Go.Proofs.YtmfhpddeclggfaaGreatDoor
open Go Go.ChangeShapes Go.WideShapes Go.ChangeMaps Go.RowKit Go.Joins Go.Deep Go.Shelf Go.Lib
set_option maxRecDepth 100000 in
theorem sheetFinishes_lifted (os : Os) (started : os.Started) (H : Type) (enc : TypeId × Value → H) :
    ReturnsInHanded {} Tryz.checked os 10 .any (fun w args => (Rows.sheetFinishesSpec.pre enc Tryz.prog Tryz.f10 [] false w args ∧ laidMetH Tryz.prog LD w) ∧ sizedMet enc Tryz.prog Tryz.f10 (OpenSpec.ofChange Rows.sheetFinishesSpec) false w args)
      (Rows.sheetFinishesSpec.post enc Tryz.prog Tryz.f10 false true false false) := by
  refine wrap_ls (C := Tryz.checked) (X := fun w _ => laidMetH Tryz.prog LD w) (fun _ _ _ hh h => h.of_heap hh) ownK started (by kernel_rfl) Tryz.func10
    (ChangeSpec.witness_shaped (enc := enc) (C := Tryz.checked) (os := os) (X := fun w _ => laidMetH Tryz.prog LD w) false (World.laidAll Tryz.prog os LD) #[.agg #[.slice none 0 0, .slice none 0 0, .slice none 0 0]] 8 (World.laidAll_os _ _ _)
      (World.shaped_of_ZipB (by kernel_rfl) (by kernel_rfl)) (by kernel_rfl) (by kernel_rfl) (by kernel_rfl)
      (by rw [MakeChecks.laidMetH_plain _ _ _ (by kernel_rfl)]; exact laidMet_laidAll _ (by kernel_rfl) (by kernel_rfl))) ?_
  intro W base args ds gs before hval0 hW hsz hL hsh
  have HE := env_of hL hsh
  have hval : ∀ (j : Nat) t v, Tryz.f10.params[j]? = some t → args[j]? = some v → Value.okWide Tryz.prog W .any base t v := hval0
  have hW' := hW
  obtain ⟨p, q, hA0, hV, rfl, hfz, hnd⟩ := hW
  have hA : DataW.TrodAll enc Tryz.prog W 0 (fun _ => true) true Tryz.f10.params.toList args.toList ds p := hA0
  rw [Tryz.params10] at hA hval hsz
  obtain ⟨v0, vs0, d0, ds0, p0, q0, hargs, rfl, rfl, h0, r0⟩ := trodAll_cons hA
  obtain ⟨rfl, rfl, rfl⟩ := trodAll_nil r0
  obtain rfl : args = #[v0] := by cases args; simp_all
  obtain ⟨rfl, rfl⟩ := trodVars_none hV
  have hlt : ∀ x ∈ p0 ++ [], x.block < W.heap.size := fun x hx => hW'.lt x (by simpa using hx)
  have k0 := h0
  have l0 : ∀ x ∈ p0, x.block < W.heap.size := fun x hx => hlt x (by simp [hx])
  have hr0 : ∀ n ∈ d0.weights Tryz.prog 78, n ≤ reachBytes := fun n hn => of_decide_eq_true (List.all_eq_true.1 hsz _ (DataW.weights_mem_each (j := 0) (t := 78) rfl rfl _ hn))
  obtain ⟨q0, c0, a0, x0, m0, y0, z0, o0, u0, rfl, hl0, hz0, hb0, hp0⟩ := read_book (hval 0 78 v0 rfl rfl) h0 l0 hr0
  clear hA0 hval0
  refine (sheetFinishes_law q0 c0 a0 x0 z0 m0 y0 o0 u0 W HE hl0 hz0 hb0 hp0).mono fun e W' ⟨he, hg⟩ => ?_
  subst he
  refine ⟨_, rfl, _, _, _, [], p0 ++ [], [], hW', ?_, ?_, ?_, hg.frame _, fun h => by cases h⟩
  · exact trodAll_mk1 (shut_bool Tryz.underlying4 true)
  · exact (trodAll_cons_mk (Below.trod Tryz.laidOutB (by kernel_rfl) (of_decide_eq_true (by kernel_rfl)) k0 hg l0) trodAll_mk0)
  · rfl
/-! Closed facts of the row. -/
theorem fin_c1 : Tryz.pinned.checked.prog.funcNamed Rows.sheetFinishesRow.func = some 10 := by kernel_rfl
theorem fin_make (x) (h : x = Rows.sheetWordsRow.make) : (Tryz.pinned.checked.prog.make == some x) = true := by rw [h]; exact jf_make0
set_option maxHeartbeats 100000000 in
theorem fin_c2 : joinedFacts Tryz.pinned.checked.prog 10 Tryz.f10 Rows.sheetFinishesSpec Rows.sheetFinishesRow = true := by
  unfold joinedFacts
  repeat' (with_reducible apply and_mk)
  all_goals first
  | with_reducible exact jf_laid
  | with_reducible exact jf_stops
  | with_reducible exact jf_enter
  | (with_reducible refine jf_lift _ ?_; kernel_rfl)
  | (with_reducible refine fin_make _ ?_; kernel_rfl)
  | (as_aux_lemma => kernel_rfl)
theorem fin_c3 : Tryz.f10.isInstance Tryz.pinned.checked.prog Rows.sheetFinishesRow.origin Rows.sheetFinishesRow.targs := of_decide_eq_true (by kernel_rfl)
theorem fin_c4 : Tryz.f10.isWrapper Tryz.pinned.checked.prog Rows.sheetFinishesRow.wrapper Rows.sheetFinishesRow.mainSum := by
  unfold Func.isWrapper; first | (rw [if_pos (by decide +kernel)]; kernel_rfl) | (rw [if_neg (by decide +kernel)]; exact ⟨rfl, rfl⟩)
theorem sheetFinishes_holds : Rows.SheetFinishesSaid :=
  OpenClaim.holds_of_wide 10 Tryz.f10 rfl rfl rfl rfl rfl rfl rfl ⟨rfl, rfl, rfl, rfl, rfl⟩ rfl rfl rfl rfl rfl fin_c1 Tryz.func10 fin_c2 fin_c3 fin_c4
    (fun os started H enc _ => sheetFinishes_lifted os started H enc)
theorem fin_goes : false = Rows.sheetFinishesRow.goesBy Tryz.pinned.checked.prog := by kernel_rfl
theorem fin_wf : Rows.sheetFinishesRow.wfByText (OpenSpec.ofChange Rows.sheetFinishesSpec) = true := by kernel_rfl
theorem fin_new : (!true && "579cf3a5525c14e527e2965c6884570c30245bf59aac7b721ab1a1de346900bd".isEmpty && !true) = false := by rfl
theorem fin_no : Rows.sheetFinishesRow.noBlocks = false ∧ Rows.sheetFinishesRow.again = false := ⟨rfl, rfl⟩
theorem fin_stand : ([78].all fun u => !Tryz.prog.wantsStandIn u) = true := by kernel_rfl
/-- The card. -/
theorem sheetFinishes_card : Rows.SheetFinishesCardSaid :=
  Claim7.holds_tied_plain_at .later [] [.data, .data, .data, .data, .sentinel, .sentinel, .pinned] true (true, "579cf3a5525c14e527e2965c6884570c30245bf59aac7b721ab1a1de346900bd") true
    sheetFinishes_holds (fun _ h => by cases h) fin_wf (fun _ h => by cases h) sheetFinishes_row_tie rfl fin_no card_main fin_new
    (fun f fn hf hfn => by
      obtain rfl : f = 10 := Option.some.inj (fin_c1.symm.trans hf) |>.symm
      obtain rfl : fn = Tryz.f10 := (Option.some.inj (Tryz.func10.symm.trans hfn)).symm
      exact ⟨card_looks, fun j t ht => by
        rw [Tryz.params10] at ht
        have hm : t ∈ [78] := by simpa using Array.mem_of_getElem? ht
        exact (show Tryz.prog.wantsStandIn t = false by simpa using List.all_eq_true.1 fin_stand t hm)⟩)
    fin_goes
end Go.Proofs.YtmfhpddeclggfaaGreatDoor
