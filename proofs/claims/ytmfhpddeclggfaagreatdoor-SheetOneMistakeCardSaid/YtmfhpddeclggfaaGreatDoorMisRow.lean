/-
  The statement SheetOneMistake is proved: a text of a line with one mistake is the text of no line. No condition of its own (the package variables start as the program lays them: the card ties them).
-/
import Derived.Test.YtmfhpddeclggfaaGreatDoorKr
import Derived.Test.YtmfhpddeclggfaaGreatDoorRowM
import Derived.Test.YtmfhpddeclggfaaGreatDoorMisLaw
namespace Go.Proofs.YtmfhpddeclggfaaGreatDoor
open Go Go.ChangeShapes Go.WideShapes Go.ChangeMaps Go.RowKit Go.Joins Go.Deep Go.Shelf Go.Lib
set_option maxRecDepth 100000 in
theorem sheetOneMistake_lifted (os : Os) (started : os.Started) (H : Type) (enc : TypeId × Value → H) :
    ReturnsInHanded {} Tryz.checked os 13 .any (fun w args => (Rows.sheetOneMistakeSpec.pre enc Tryz.prog Tryz.f13 [] false w args ∧ laidMetH Tryz.prog LD w) ∧ sizedMet enc Tryz.prog Tryz.f13 (OpenSpec.ofChange Rows.sheetOneMistakeSpec) false w args)
      (Rows.sheetOneMistakeSpec.post enc Tryz.prog Tryz.f13 false true false false) := by
  refine wrap_ls (C := Tryz.checked) (X := fun w _ => laidMetH Tryz.prog LD w) (fun _ _ _ hh h => h.of_heap hh) ownK started (by kernel_rfl) Tryz.func13
    (ChangeSpec.witness_shaped (enc := enc) (C := Tryz.checked) (os := os) (X := fun w _ => laidMetH Tryz.prog LD w) false (World.laidAll Tryz.prog os LD) #[.agg #[.int .i64 0, .slice none 0 0], .int .u16 0, .int .u8 0] 8 (World.laidAll_os _ _ _)
      (World.shaped_of_ZipB (by kernel_rfl) (by kernel_rfl)) (by kernel_rfl) (by kernel_rfl) (by kernel_rfl)
      (by rw [MakeChecks.laidMetH_plain _ _ _ (by kernel_rfl)]; exact laidMet_laidAll _ (by kernel_rfl) (by kernel_rfl))) ?_
  intro W base args ds gs before hval0 hW hsz hL hsh
  have HE := env_of hL hsh
  have hval : ∀ (j : Nat) t v, Tryz.f13.params[j]? = some t → args[j]? = some v → Value.okWide Tryz.prog W .any base t v := hval0
  have hW' := hW
  obtain ⟨p, q, hA0, hV, rfl, hfz, hnd⟩ := hW
  have hA : DataW.TrodAll enc Tryz.prog W 0 (fun _ => true) true Tryz.f13.params.toList args.toList ds p := hA0
  rw [Tryz.params13] at hA hval hsz
  obtain ⟨v0, vs0, d0, ds0, p0, q0, hargs, rfl, rfl, h0, r0⟩ := trodAll_cons hA
  obtain ⟨v1, vs1, d1, ds1, p1, q1, rfl, rfl, rfl, h1, r1⟩ := trodAll_cons r0
  obtain ⟨v2, vs2, d2, ds2, p2, q2, rfl, rfl, rfl, h2, r2⟩ := trodAll_cons r1
  obtain ⟨rfl, rfl, rfl⟩ := trodAll_nil r2
  obtain rfl : args = #[v0, v1, v2] := by cases args; simp_all
  obtain ⟨rfl, rfl⟩ := trodVars_none hV
  have hlt : ∀ x ∈ p0 ++ (p1 ++ (p2 ++ [])), x.block < W.heap.size := fun x hx => hW'.lt x (by simpa using hx)
  have k0 := h0
  have l0 : ∀ x ∈ p0, x.block < W.heap.size := fun x hx => hlt x (by simp [hx])
  have k1 := h1
  have l1 : ∀ x ∈ p1, x.block < W.heap.size := fun x hx => hlt x (by simp [hx])
  have k2 := h2
  have l2 : ∀ x ∈ p2, x.block < W.heap.size := fun x hx => hlt x (by simp [hx])
  obtain ⟨m0, q0, c0, a0, rfl, b0, hl0, hz0, hp0⟩ := read_line_arg (hval 0 39 v0 rfl rfl) h0 l0
  obtain ⟨a1, rfl, rfl, _, w1⟩ := open_int Tryz.underlying105 (hval 1 105 v1 rfl rfl) h1
  obtain ⟨a2, rfl, rfl, _, w2⟩ := open_int Tryz.underlying5 (hval 2 5 v2 rfl rfl) h2
  clear hA0 hval0
  refine (sheetOneMistake_law m0 q0 c0 a0 a1 a2 W HE b0 hl0 hz0 hp0 (bounds_u16 w1) (bounds_u8 w2)).mono fun e W' ⟨he, hg⟩ => ?_
  subst he
  refine ⟨_, rfl, _, _, _, [], p0 ++ (p1 ++ (p2 ++ [])), [], hW', ?_, ?_, ?_, hg.frame _, fun h => by cases h⟩
  · exact trodAll_mk1 (shut_bool Tryz.underlying4 true)
  · exact (trodAll_cons_mk (Below.trod Tryz.laidOutB (by kernel_rfl) (of_decide_eq_true (by kernel_rfl)) k0 hg l0) (trodAll_cons_mk (Below.trod Tryz.laidOutB (by kernel_rfl) (of_decide_eq_true (by kernel_rfl)) k1 hg l1) (trodAll_cons_mk (Below.trod Tryz.laidOutB (by kernel_rfl) (of_decide_eq_true (by kernel_rfl)) k2 hg l2) trodAll_mk0)))
  · rfl
/-! Closed facts of the row. -/
theorem mis_c1 : Tryz.pinned.checked.prog.funcNamed Rows.sheetOneMistakeRow.func = some 13 := by kernel_rfl
theorem mis_make (x) (h : x = Rows.sheetWordsRow.make) : (Tryz.pinned.checked.prog.make == some x) = true := by rw [h]; exact jf_make0
set_option maxHeartbeats 100000000 in
theorem mis_c2 : joinedFacts Tryz.pinned.checked.prog 13 Tryz.f13 Rows.sheetOneMistakeSpec Rows.sheetOneMistakeRow = true := by
  unfold joinedFacts
  repeat' (with_reducible apply and_mk)
  all_goals first
  | with_reducible exact jf_laid
  | with_reducible exact jf_stops
  | with_reducible exact jf_enter
  | (with_reducible refine jf_lift _ ?_; kernel_rfl)
  | (with_reducible refine mis_make _ ?_; kernel_rfl)
  | (as_aux_lemma => kernel_rfl)
theorem mis_c3 : Tryz.f13.isInstance Tryz.pinned.checked.prog Rows.sheetOneMistakeRow.origin Rows.sheetOneMistakeRow.targs := of_decide_eq_true (by kernel_rfl)
theorem mis_c4 : Tryz.f13.isWrapper Tryz.pinned.checked.prog Rows.sheetOneMistakeRow.wrapper Rows.sheetOneMistakeRow.mainSum := by
  unfold Func.isWrapper; first | (rw [if_pos (by decide +kernel)]; kernel_rfl) | (rw [if_neg (by decide +kernel)]; exact ⟨rfl, rfl⟩)
theorem sheetOneMistake_holds : Rows.SheetOneMistakeSaid :=
  OpenClaim.holds_of_wide 13 Tryz.f13 rfl rfl rfl rfl rfl rfl rfl ⟨rfl, rfl, rfl, rfl, rfl⟩ rfl rfl rfl rfl rfl mis_c1 Tryz.func13 mis_c2 mis_c3 mis_c4
    (fun os started H enc _ => sheetOneMistake_lifted os started H enc)
theorem mis_goes : false = Rows.sheetOneMistakeRow.goesBy Tryz.pinned.checked.prog := by kernel_rfl
theorem mis_wf : Rows.sheetOneMistakeRow.wfByText (OpenSpec.ofChange Rows.sheetOneMistakeSpec) = true := by kernel_rfl
theorem mis_new : (!true && "579cf3a5525c14e527e2965c6884570c30245bf59aac7b721ab1a1de346900bd".isEmpty && !true) = false := by rfl
theorem mis_no : Rows.sheetOneMistakeRow.noBlocks = false ∧ Rows.sheetOneMistakeRow.again = false := ⟨rfl, rfl⟩
theorem mis_stand : ([39, 105, 5].all fun u => !Tryz.prog.wantsStandIn u) = true := by kernel_rfl
/-- The card. -/
theorem sheetOneMistake_card : Rows.SheetOneMistakeCardSaid :=
  Claim7.holds_tied_plain_at .later [] [.data, .data, .data, .data, .sentinel, .sentinel, .pinned] true (true, "579cf3a5525c14e527e2965c6884570c30245bf59aac7b721ab1a1de346900bd") true
    sheetOneMistake_holds (fun _ h => by cases h) mis_wf (fun _ h => by cases h) sheetOneMistake_row_tie rfl mis_no card_main mis_new
    (fun f fn hf hfn => by
      obtain rfl : f = 13 := Option.some.inj (mis_c1.symm.trans hf) |>.symm
      obtain rfl : fn = Tryz.f13 := (Option.some.inj (Tryz.func13.symm.trans hfn)).symm
      exact ⟨card_looks, fun j t ht => by
        rw [Tryz.params13] at ht
        have hm : t ∈ [39, 105, 5] := by simpa using Array.mem_of_getElem? ht
        exact (show Tryz.prog.wantsStandIn t = false by simpa using List.all_eq_true.1 mis_stand t hm)⟩)
    mis_goes
end Go.Proofs.YtmfhpddeclggfaaGreatDoor
