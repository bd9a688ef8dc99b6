/-
  The statement SheetOverlays is proved: Overlay answers as the reference does, whatever the order, and covers each piece. No condition of its own (the package variables start as the program lays them: the card ties them).
-/
import Derived.Test.YtmfhpddeclggfaaGreatDoorKr
import Derived.Test.YtmfhpddeclggfaaGreatDoorRowM
import Derived.Test.YtmfhpddeclggfaaGreatDoorOvLaw
import Derived.Test.YtmfhpddeclggfaaGreatDoorRowW
namespace Go.Proofs.YtmfhpddeclggfaaGreatDoor
open Go Go.ChangeShapes Go.WideShapes Go.ChangeMaps Go.RowKit Go.Joins Go.Deep Go.Shelf Go.Lib
set_option maxRecDepth 100000 in
theorem sheetOverlays_lifted (os : Os) (started : os.Started) (H : Type) (enc : TypeId × Value → H) :
    ReturnsInHanded {} Tryz.checked os 8 .any (fun w args => (Rows.sheetOverlaysSpec.pre enc Tryz.prog Tryz.f8 [] false w args ∧ laidMetH Tryz.prog LD w) ∧ sizedMet enc Tryz.prog Tryz.f8 (OpenSpec.ofChange Rows.sheetOverlaysSpec) false w args)
      (Rows.sheetOverlaysSpec.post enc Tryz.prog Tryz.f8 false true false false) := by
  refine wrap_ls (C := Tryz.checked) (X := fun w _ => laidMetH Tryz.prog LD w) (fun _ _ _ hh h => h.of_heap hh) ownK started (by kernel_rfl) Tryz.func8
    (ChangeSpec.witness_shaped (enc := enc) (C := Tryz.checked) (os := os) (X := fun w _ => laidMetH Tryz.prog LD w) false (World.laidAll Tryz.prog os LD) #[.slice none 0 0] 8 (World.laidAll_os _ _ _)
      (World.shaped_of_ZipB (by kernel_rfl) (by kernel_rfl)) (by kernel_rfl) (by kernel_rfl) (by kernel_rfl)
      (by rw [MakeChecks.laidMetH_plain _ _ _ (by kernel_rfl)]; exact laidMet_laidAll _ (by kernel_rfl) (by kernel_rfl))) ?_
  intro W base args ds gs before hval0 hW hsz hL hsh
  have HE := env_of hL hsh
  have hval : ∀ (j : Nat) t v, Tryz.f8.params[j]? = some t → args[j]? = some v → Value.okWide Tryz.prog W .any base t v := hval0
  have hW' := hW
  obtain ⟨p, q, hA0, hV, rfl, hfz, hnd⟩ := hW
  have hA : DataW.TrodAll enc Tryz.prog W 0 (fun _ => true) true Tryz.f8.params.toList args.toList ds p := hA0
  rw [Tryz.params8] at hA hval hsz
  obtain ⟨v0, vs0, d0, ds0, p0, q0, hargs, rfl, rfl, h0, r0⟩ := trodAll_cons hA
  obtain ⟨rfl, rfl, rfl⟩ := trodAll_nil r0
  obtain rfl : args = #[v0] := by cases args; simp_all
  obtain ⟨rfl, rfl⟩ := trodVars_none hV
  have hlt : ∀ x ∈ p0 ++ [], x.block < W.heap.size := fun x hx => hW'.lt x (by simpa using hx)
  have k0 := h0
  have l0 : ∀ x ∈ p0, x.block < W.heap.size := fun x hx => hlt x (by simp [hx])
  obtain ⟨q0, c0, a0, rfl, hl0, hz0, hp0, hw0⟩ := read_strs_w (hval 0 37 v0 rfl rfl) h0 l0
  have hr0 : ∀ s ∈ a0, s.size ≤ 140737488355328 := fun s hs => by
    have h9 : s.size ≤ reachBytes := of_decide_eq_true (List.all_eq_true.1 hsz _ (DataW.weights_mem_each (j := 0) (t := 37) rfl rfl _ (hw0 s hs)))
    simp only [reachBytes] at h9
    omega
  clear hA0 hval0
  refine (sheetOverlays_law q0 c0 a0 W HE hl0 hz0 hp0 hr0).mono fun e W' ⟨he, hg⟩ => ?_
  subst he
  refine ⟨_, rfl, _, _, _, [], p0 ++ [], [], hW', ?_, ?_, ?_, hg.frame _, fun h => by cases h⟩
  · exact trodAll_mk1 (shut_bool Tryz.underlying4 true)
  · exact (trodAll_cons_mk (Below.trod Tryz.laidOutB (by kernel_rfl) (of_decide_eq_true (by kernel_rfl)) k0 hg l0) trodAll_mk0)
  · rfl
/-! Closed facts of the row. -/
theorem over_c1 : Tryz.pinned.checked.prog.funcNamed Rows.sheetOverlaysRow.func = some 8 := by kernel_rfl
theorem over_make (x) (h : x = Rows.sheetWordsRow.make) : (Tryz.pinned.checked.prog.make == some x) = true := by rw [h]; exact jf_make0
set_option maxHeartbeats 100000000 in
theorem over_c2 : joinedFacts Tryz.pinned.checked.prog 8 Tryz.f8 Rows.sheetOverlaysSpec Rows.sheetOverlaysRow = true := by
  unfold joinedFacts
  repeat' (with_reducible apply and_mk)
  all_goals first
  | with_reducible exact jf_laid
  | with_reducible exact jf_stops
  | with_reducible exact jf_enter
  | (with_reducible refine jf_lift _ ?_; kernel_rfl)
  | (with_reducible refine over_make _ ?_; kernel_rfl)
  | (as_aux_lemma => kernel_rfl)
theorem over_c3 : Tryz.f8.isInstance Tryz.pinned.checked.prog Rows.sheetOverlaysRow.origin Rows.sheetOverlaysRow.targs := of_decide_eq_true (by kernel_rfl)
theorem over_c4 : Tryz.f8.isWrapper Tryz.pinned.checked.prog Rows.sheetOverlaysRow.wrapper Rows.sheetOverlaysRow.mainSum := by
  unfold Func.isWrapper; first | (rw [if_pos (by decide +kernel)]; kernel_rfl) | (rw [if_neg (by decide +kernel)]; exact ⟨rfl, rfl⟩)
theorem sheetOverlays_holds : Rows.SheetOverlaysSaid :=
  OpenClaim.holds_of_wide 8 Tryz.f8 rfl rfl rfl rfl rfl rfl rfl ⟨rfl, rfl, rfl, rfl, rfl⟩ rfl rfl rfl rfl rfl over_c1 Tryz.func8 over_c2 over_c3 over_c4
    (fun os started H enc _ => sheetOverlays_lifted os started H enc)
theorem over_goes : false = Rows.sheetOverlaysRow.goesBy Tryz.pinned.checked.prog := by kernel_rfl
theorem over_wf : Rows.sheetOverlaysRow.wfByText (OpenSpec.ofChange Rows.sheetOverlaysSpec) = true := by kernel_rfl
theorem over_new : (!true && "579cf3a5525c14e527e2965c6884570c30245bf59aac7b721ab1a1de346900bd".isEmpty && !true) = false := by rfl
theorem over_no : Rows.sheetOverlaysRow.noBlocks = false ∧ Rows.sheetOverlaysRow.again = false := ⟨rfl, rfl⟩
theorem over_stand : ([37].all fun u => !Tryz.prog.wantsStandIn u) = true := by kernel_rfl
/-- The card. -/
theorem sheetOverlays_card : Rows.SheetOverlaysCardSaid :=
  Claim7.holds_tied_plain_at .later [] [.data, .data, .data, .data, .sentinel, .sentinel, .pinned] true (true, "579cf3a5525c14e527e2965c6884570c30245bf59aac7b721ab1a1de346900bd") true
    sheetOverlays_holds (fun _ h => by cases h) over_wf (fun _ h => by cases h) sheetOverlays_row_tie rfl over_no card_main over_new
    (fun f fn hf hfn => by
      obtain rfl : f = 8 := Option.some.inj (over_c1.symm.trans hf) |>.symm
      obtain rfl : fn = Tryz.f8 := (Option.some.inj (Tryz.func8.symm.trans hfn)).symm
      exact ⟨card_looks, fun j t ht => by
        rw [Tryz.params8] at ht
        have hm : t ∈ [37] := by simpa using Array.mem_of_getElem? ht
        exact (show Tryz.prog.wantsStandIn t = false by simpa using List.all_eq_true.1 over_stand t hm)⟩)
    over_goes
end Go.Proofs.YtmfhpddeclggfaaGreatDoor
