/-
  The statement SheetOrder is proved: for few copies that are put in another order, Collate has the same lines, gaps and number of clashes. No condition of its own (the package variables start as the program lays them: the card ties them).
-/
import Derived.Test.YtmfhpddeclggfaaGreatDoorKr
import Derived.Test.YtmfhpddeclggfaaGreatDoorRowM
import Derived.Test.YtmfhpddeclggfaaGreatDoorRowW
import Derived.Test.YtmfhpddeclggfaaGreatDoorZOrdLaw
namespace Go.Proofs.YtmfhpddeclggfaaGreatDoor
open Go Go.ChangeShapes Go.WideShapes Go.ChangeMaps Go.RowKit Go.Joins Go.Deep Go.Shelf Go.Lib
theorem read_cap {H : Type} {enc : TypeId × Value → H} {W : World} {q : Option Addr} {n c : Nat} {d : DataW H} {p : List MemPlace} (h : DataW.Trod enc Tryz.prog W 0 (fun _ => true) true 37 (.slice q n c) d p) : n ≤ c := by
  obtain ⟨fuel, hf⟩ := h
  rcases open_slice Tryz.underlying37 hf with ⟨hcs, _⟩ | ⟨ad, len', cap', m, n', D, Pl, hcs, _, hl, _⟩
  · simp [Value.cells] at hcs
    omega
  · simp [Value.cells] at hcs
    omega
set_option maxRecDepth 100000 in
theorem sheetOrder_lifted (os : Os) (started : os.Started) (H : Type) (enc : TypeId × Value → H) :
    ReturnsInHanded {} Tryz.checked os 16 .any (fun w args => (Rows.sheetOrderSpec.pre enc Tryz.prog Tryz.f16 [] false w args ∧ laidMetH Tryz.prog LD w) ∧ sizedMet enc Tryz.prog Tryz.f16 (OpenSpec.ofChange Rows.sheetOrderSpec) false w args)
      (Rows.sheetOrderSpec.post enc Tryz.prog Tryz.f16 false true false false) := by
  refine wrap_ls (C := Tryz.checked) (X := fun w _ => laidMetH Tryz.prog LD w) (fun _ _ _ hh h => h.of_heap hh) ownK started (by kernel_rfl) Tryz.func16
    (ChangeSpec.witness_shaped (enc := enc) (C := Tryz.checked) (os := os) (X := fun w _ => laidMetH Tryz.prog LD w) false (World.laidAll Tryz.prog os LD) #[.slice none 0 0, .int .u8 0] 8 (World.laidAll_os _ _ _)
      (World.shaped_of_ZipB (by kernel_rfl) (by kernel_rfl)) (by kernel_rfl) (by kernel_rfl) (by kernel_rfl)
      (by rw [MakeChecks.laidMetH_plain _ _ _ (by kernel_rfl)]; exact laidMet_laidAll _ (by kernel_rfl) (by kernel_rfl))) ?_
  intro W base args ds gs before hval0 hW hsz hL hsh
  have HE := env_of hL hsh
  have hval : ∀ (j : Nat) t v, Tryz.f16.params[j]? = some t → args[j]? = some v → Value.okWide Tryz.prog W .any base t v := hval0
  have hW' := hW
  obtain ⟨p, q, hA0, hV, rfl, hfz, hnd⟩ := hW
  have hA : DataW.TrodAll enc Tryz.prog W 0 (fun _ => true) true Tryz.f16.params.toList args.toList ds p := hA0
  rw [Tryz.params16] at hA hval hsz
  obtain ⟨v0, vs0, d0, ds0, p0, q0, hargs, rfl, rfl, h0, r0⟩ := trodAll_cons hA
  obtain ⟨v1, vs1, d1, ds1, p1, q1, rfl, rfl, rfl, h1, r1⟩ := trodAll_cons r0
  obtain ⟨rfl, rfl, rfl⟩ := trodAll_nil r1
  obtain rfl : args = #[v0, v1] := by cases args; simp_all
  obtain ⟨rfl, rfl⟩ := trodVars_none hV
  have hlt : ∀ x ∈ p0 ++ (p1 ++ []), x.block < W.heap.size := fun x hx => hW'.lt x (by simpa using hx)
  have k0 := h0
  have l0 : ∀ x ∈ p0, x.block < W.heap.size := fun x hx => hlt x (by simp [hx])
  have k1 := h1
  have l1 : ∀ x ∈ p1, x.block < W.heap.size := fun x hx => hlt x (by simp [hx])
  obtain ⟨q0, c0, a0, rfl, hl0, hz0, hp0, hw0⟩ := read_strs_w (hval 0 37 v0 rfl rfl) h0 l0
  have hr0 : ∀ s ∈ a0, s.size ≤ 140737488355328 := fun s hs => by
    have h9 : s.size ≤ reachBytes := of_decide_eq_true (List.all_eq_true.1 hsz _ (DataW.weights_mem_each (j := 0) (t := 37) rfl rfl _ (hw0 s hs)))
    simp only [reachBytes] at h9
    omega
  obtain ⟨a1, rfl, rfl, _, w1⟩ := open_int Tryz.underlying5 (hval 1 5 v1 rfl rfl) h1
  have hc0 : a0.length ≤ c0 := read_cap k0
  clear hA0 hval0
  refine (sheetOrder_law q0 c0 a0 a1 W HE hl0 hz0 hp0 hr0 hc0 (bounds_u8 w1)).mono fun e W' ⟨he, hg⟩ => ?_
  subst he
  refine ⟨_, rfl, _, _, _, [], p0 ++ (p1 ++ []), [], hW', ?_, ?_, ?_, hg.frame _, fun h => by cases h⟩
  · exact trodAll_mk1 (shut_bool Tryz.underlying4 true)
  · exact (trodAll_cons_mk (Below.trod Tryz.laidOutB (by kernel_rfl) (of_decide_eq_true (by kernel_rfl)) k0 hg l0) (trodAll_cons_mk (Below.trod Tryz.laidOutB (by kernel_rfl) (of_decide_eq_true (by kernel_rfl)) k1 hg l1) trodAll_mk0))
  · rfl
/-! Closed facts of the row. -/
theorem so_c1 : Tryz.pinned.checked.prog.funcNamed Rows.sheetOrderRow.func = some 16 := by kernel_rfl
theorem so_make (x) (h : x = Rows.sheetWordsRow.make) : (Tryz.pinned.checked.prog.make == some x) = true := by rw [h]; exact jf_make0
set_option maxHeartbeats 100000000 in
theorem so_c2 : joinedFacts Tryz.pinned.checked.prog 16 Tryz.f16 Rows.sheetOrderSpec Rows.sheetOrderRow = true := by
  unfold joinedFacts
  repeat' (with_reducible apply and_mk)
  all_goals first
  | with_reducible exact jf_laid
  | with_reducible exact jf_stops
  | with_reducible exact jf_enter
  | (with_reducible refine jf_lift _ ?_; kernel_rfl)
  | (with_reducible refine so_make _ ?_; kernel_rfl)
  | (as_aux_lemma => kernel_rfl)
theorem so_c3 : Tryz.f16.isInstance Tryz.pinned.checked.prog Rows.sheetOrderRow.origin Rows.sheetOrderRow.targs := of_decide_eq_true (by kernel_rfl)
theorem so_c4 : Tryz.f16.isWrapper Tryz.pinned.checked.prog Rows.sheetOrderRow.wrapper Rows.sheetOrderRow.mainSum := by
  unfold Func.isWrapper; first | (rw [if_pos (by decide +kernel)]; kernel_rfl) | (rw [if_neg (by decide +kernel)]; exact ⟨rfl, rfl⟩)
theorem sheetOrder_holds : Rows.SheetOrderSaid :=
  OpenClaim.holds_of_wide 16 Tryz.f16 rfl rfl rfl rfl rfl rfl rfl ⟨rfl, rfl, rfl, rfl, rfl⟩ rfl rfl rfl rfl rfl so_c1 Tryz.func16 so_c2 so_c3 so_c4
    (fun os started H enc _ => sheetOrder_lifted os started H enc)
theorem so_goes : false = Rows.sheetOrderRow.goesBy Tryz.pinned.checked.prog := by kernel_rfl
theorem so_wf : Rows.sheetOrderRow.wfByText (OpenSpec.ofChange Rows.sheetOrderSpec) = true := by kernel_rfl
theorem so_new : (!true && "579cf3a5525c14e527e2965c6884570c30245bf59aac7b721ab1a1de346900bd".isEmpty && !true) = false := by rfl
theorem so_no : Rows.sheetOrderRow.noBlocks = false ∧ Rows.sheetOrderRow.again = false := ⟨rfl, rfl⟩
theorem so_stand : ([37, 5].all fun u => !Tryz.prog.wantsStandIn u) = true := by kernel_rfl
/-- The card. -/
theorem sheetOrder_card : Rows.SheetOrderCardSaid :=
  Claim7.holds_tied_plain_at .later [] [.data, .data, .data, .data, .sentinel, .sentinel, .pinned] true (true, "579cf3a5525c14e527e2965c6884570c30245bf59aac7b721ab1a1de346900bd") true
    sheetOrder_holds (fun _ h => by cases h) so_wf (fun _ h => by cases h) sheetOrder_row_tie rfl so_no card_main so_new
    (fun f fn hf hfn => by
      obtain rfl : f = 16 := Option.some.inj (so_c1.symm.trans hf) |>.symm
      obtain rfl : fn = Tryz.f16 := (Option.some.inj (Tryz.func16.symm.trans hfn)).symm
      exact ⟨card_looks, fun j t ht => by
        rw [Tryz.params16] at ht
        have hm : t ∈ [37, 5] := by simpa using Array.mem_of_getElem? ht
        exact (show Tryz.prog.wantsStandIn t = false by simpa using List.all_eq_true.1 so_stand t hm)⟩)
    so_goes
end Go.Proofs.YtmfhpddeclggfaaGreatDoor
