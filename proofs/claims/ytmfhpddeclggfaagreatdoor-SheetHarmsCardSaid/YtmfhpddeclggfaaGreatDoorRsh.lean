import Derived.Test.YtmfhpddeclggfaaGreatDoorSp1
namespace Go.Proofs.YtmfhpddeclggfaaGreatDoor
open Go Go.RowKit
/-! What the reference takes for a line. -/
theorem join_spL : ∀ (ps : List (List UInt8)) (p : List UInt8), NoSp p → (∀ q ∈ ps, NoSp q) → spL 32 (joinS p ps) = p :: ps
  | [], p, hp, _ => by
    have e : joinS p [] = p := by simp [joinS]
    rw [e]; exact spL_none hp
  | q :: qs, p, hp, hq => by
    have e : joinS p (q :: qs) = p ++ 32 :: joinS q qs := by simp [joinS]
    rw [e, spL_cut _ hp, join_spL qs q (hq q List.mem_cons_self) (fun x hx => hq x (List.mem_cons_of_mem _ hx))]
theorem spL_join (c : UInt8) : ∀ (l : List UInt8), ∃ p ps, spL c l = p :: ps ∧ l = p ++ ps.flatMap (c :: ·)
  | [] => ⟨[], [], rfl, rfl⟩
  | x :: l => by
    obtain ⟨p, ps, h1, h2⟩ := spL_join c l
    unfold spL
    by_cases h : x = c
    · rw [if_pos h]
      exact ⟨[], spL c l, rfl, by rw [h1, h]; simp [← h2]⟩
    · rw [if_neg h, h1]
      exact ⟨x :: p, ps, rfl, by rw [h2]; rfl⟩
/-- The shape of a line's text, without its check: the head, a blank, four bytes. -/
def Shp (s : ByteArray) (n : Int) (ws : List ByteArray) : Prop := lineErr n ws = 0 ∧ 5 ≤ s.size ∧ s.data.toList.take (s.size - 4) = headL n ws ++ [32]
theorem headL_len (n : Int) (ws : List ByteArray) : 1 ≤ (headL n ws).length := by simp [headL]
theorem shp_body {s : ByteArray} {n : Int} {ws : List ByteArray} (h : Shp s n ws) : lineN s = n ∧ lineWs s = ws ∧ splitOk s = true ∧ sameHead s = true := by
  obtain ⟨h1, h2, h3⟩ := h
  obtain ⟨n1, n2, hl, hw⟩ := lineErr_ok h1
  have hb : (bodyOf s).data.toList = headL n ws ++ [32] := by unfold bodyOf; rw [Lib.extract_from_zero]; exact h3
  have hsuf : Lib.hasSuffix (headL n ws ++ [32]) [32] = true := by
    unfold Lib.hasSuffix
    rw [List.isSuffixOf_iff_suffix]
    exact ⟨_, rfl⟩
  have t2 : hasSp s = true := by unfold hasSp; rw [hb]; exact hsuf
  have t1 : trimmed s = bs (headL n ws) := by
    unfold trimmed
    rw [hb]
    unfold Lib.trimSuffix
    rw [if_pos hsuf]
    show (⟨((headL n ws ++ [32]).take ((headL n ws ++ [32]).length - 1)).toArray⟩ : ByteArray) = _
    rw [List.length_append, show (headL n ws).length + [(32 : UInt8)].length - 1 = (headL n ws).length from by simp, List.take_left' rfl]
    rfl
  have hp := parts_line n ws (words_wsOk hw) hl
  have h64 : Lib.hasPrefix (64 :: Lib.itoa n) [64] = true := by simp [Lib.hasPrefix, List.isPrefixOf]
  have hrd := rdInt_itoa n (by omega) (by omega)
  have p0 : partN s 0 = bs (64 :: Lib.itoa n) := by unfold partN; rw [t1, hp]; rfl
  have e1 : lineN s = n := by
    unfold lineN mkN
    rw [p0, bs_list, mk64_at, hrd]; rfl
  have e2 : lineWs s = ws := by unfold lineWs; rw [t1, hp]; rfl
  refine ⟨e1, e2, ?_, ?_⟩
  · unfold splitOk mkOk
    rw [p0, t1, t2, hp, bs_list, mk64_at, hrd, h64]
    simp
    omega
  · unfold sameHead headOf again
    rw [e1, e2]
    have a1 : ((bs (lineT n ws)).extract 0 ((bs (lineT n ws)).size - 4)).data.toList = headL n ws ++ [32] := body_line n ws
    have a2 : (s.extract 0 (s.size - 4)).data.toList = headL n ws ++ [32] := hb
    exact str_beq_true (by rw [a1, a2])
theorem shp_of {s : ByteArray} (h1 : splitOk s = true) (h2 : lineErr (lineN s) (lineWs s) = 0) (h3 : sameHead s = true) : Shp s (lineN s) (lineWs s) := by
  have h4 : 4 ≤ s.size := by
    unfold splitOk at h1
    rw [Bool.and_eq_true] at h1
    exact of_decide_eq_true h1.1
  have e := toList_eq h3
  have e2 := congrArg (fun b : ByteArray => b.data.toList) e
  have a1 : (headOf (again s)).data.toList = headL (lineN s) (lineWs s) ++ [32] := body_line _ _
  have a2 : (headOf s).data.toList = s.data.toList.take (s.size - 4) := by unfold headOf; exact Lib.extract_from_zero _ _
  simp only [a1, a2] at e2
  refine ⟨h2, ?_, e2.symm⟩
  have := congrArg List.length e2
  rw [List.length_append, List.length_take, ← Lib.size_eq] at this
  have := headL_len (lineN s) (lineWs s)
  simp at *
  omega
/-- The program's error, by the shape. -/
theorem readErr_shp {s : ByteArray} {n : Int} {ws : List ByteArray} (h : Shp s n ws) : readErr s = if bs (lineT n ws) = s then 0 else 11 := by
  obtain ⟨e1, e2, e3, e4⟩ := shp_body h
  unfold readErr
  rw [e3, e4, e1, e2, h.1]
  have : again s = bs (lineT n ws) := by unfold again; rw [e1, e2]
  rw [this]
  by_cases hb : bs (lineT n ws) = s
  · rw [if_pos hb, hb]; simp
  · have h9 : ¬ ((bs (lineT n ws)).toList == s.toList) = true := fun e => hb (toList_eq e)
    rw [if_neg hb]
    simp [h9]
theorem readErr_no {s : ByteArray} (h : ∀ n ws, ¬ Shp s n ws) : readErr s = 7 := by
  unfold readErr
  by_cases h1 : splitOk s = false
  · rw [if_pos h1]
  · rw [if_neg h1]
    by_cases h2 : lineErr (lineN s) (lineWs s) ≠ 0
    · rw [if_pos h2]
    · rw [if_neg h2]
      by_cases h3 : sameHead s = false
      · rw [if_pos h3]
      · exact absurd (shp_of (by simpa using h1) (by simpa using h2) (by simpa using h3)) (h _ _)
/-- The piece that the reference splits. -/
def midOf (s : ByteArray) : ByteArray := s.extract 1 (s.size - 5)
theorem mid_data (s : ByteArray) : (midOf s).data.toList = (s.data.toList.take (s.size - 5)).drop 1 := by
  unfold midOf
  rw [Lib.extract_data, ← List.drop_take]
theorem shp_take {s : ByteArray} {n : Int} {ws : List ByteArray} (h : Shp s n ws) : s.data.toList.take (s.size - 5) = headL n ws ∧ s.data.toList[s.size - 5]? = some 32 := by
  obtain ⟨h1, h2, h3⟩ := h
  have hl := congrArg List.length h3
  rw [List.length_append, List.length_take, ← Lib.size_eq] at hl
  have hl2 : (headL n ws).length = s.size - 5 := by simp at hl; omega
  constructor
  · have := congrArg (List.take (s.size - 5)) h3
    rw [List.take_take, Nat.min_eq_left (by omega), ← hl2, List.take_left' rfl] at this
    rw [← hl2]; exact this
  · have := congrArg (fun l => l[s.size - 5]?) h3
    rw [List.getElem?_take_of_lt (by omega), ← hl2, List.getElem?_append_right (by omega)] at this
    rw [← hl2]
    simpa using this
theorem shp_parts {s : ByteArray} {n : Int} {ws : List ByteArray} (h : Shp s n ws) : 5 ≤ s.size ∧ s.data.toList[0]? = some 64 ∧ s.data.toList[s.size - 5]? = some 32 ∧ ∀ ps : List ByteArray, ps.map (·.data.toList) = spL 32 (midOf s).data.toList → ps = bs (Lib.itoa n) :: bs (Lib.itoa ws.length) :: ws := by
  obtain ⟨t1, t2⟩ := shp_take h
  obtain ⟨-, -, hl, hw⟩ := lineErr_ok h.1
  have e : headL n ws = 64 :: joinS (Lib.itoa n) (Lib.itoa ws.length :: ws.map (·.data.toList)) := by rw [headL_join]; rfl
  have hlen : 0 < s.size - 5 := by
    have h5 := congrArg List.length t1
    have h6 := headL_len n ws
    rw [List.length_take, ← Lib.size_eq] at h5
    omega
  refine ⟨h.2.1, ?_, t2, fun ps hps => map_data_inj ?_⟩
  · have := congrArg (fun l => l[0]?) t1
    rw [List.getElem?_take_of_lt hlen, e] at this
    exact this
  · rw [hps, mid_data, t1, e]
    show spL 32 (joinS _ _) = _
    rw [join_spL _ _ (itoa_noSp n)]
    · rfl
    · intro q hq
      rcases List.mem_cons.1 hq with rfl | hq
      · exact itoa_noSp _
      · obtain ⟨x, hx, rfl⟩ := List.mem_map.1 hq
        exact words_wsOk hw x hx
theorem shp_mk {s : ByteArray} {n k : Int} {p0 p1 : ByteArray} {ws : List ByteArray} (h5 : 5 ≤ s.size) (h0 : s.data.toList[0]? = some 64) (h32 : s.data.toList[s.size - 5]? = some 32) (hps : (p0 :: p1 :: ws).map (·.data.toList) = spL 32 (midOf s).data.toList)
    (hn : bs (Lib.itoa n) = p0) (hk : bs (Lib.itoa k) = p1) (hl : k = ws.length) (he : lineErr n ws = 0) : Shp s n ws := by
  obtain ⟨p, ps, g1, g2⟩ := spL_join 32 (midOf s).data.toList
  rw [g1] at hps
  simp only [List.map_cons, List.cons.injEq] at hps
  obtain ⟨rfl, hps2⟩ := hps
  subst hl
  have hsz : s.size = s.data.toList.length := Lib.size_eq s
  have hpos : 0 < s.size - 5 ∨ s.size - 5 = 0 := by omega
  have h6 : s.data.toList.take (s.size - 5) = headL n ws := by
    rw [mid_data] at g2
    have e0 : p0.data.toList = Lib.itoa n := by rw [← hn]; rfl
    have e1 : p1.data.toList = Lib.itoa ws.length := by rw [← hk]; rfl
    rw [← hps2, e0, e1] at g2
    have hne : s.data.toList.take (s.size - 5) ≠ [] := by
      intro hh
      rw [hh] at g2
      have : Lib.itoa n ≠ [] := fun hi => by
        have := (itoa_len n (by obtain ⟨a, b, -⟩ := lineErr_ok he; omega) (by obtain ⟨a, b, -⟩ := lineErr_ok he; omega)).1
        rw [hi] at this; simp at this
      cases hi : Lib.itoa n with
      | nil => exact this hi
      | cons x l => rw [hi] at g2; simp at g2
    cases ht : s.data.toList.take (s.size - 5) with
    | nil => exact absurd ht hne
    | cons x l =>
      have hx : x = 64 := by
        have := congrArg (fun l => l[0]?) ht
        have hlen : 0 < s.size - 5 := by
          have := congrArg List.length ht
          rw [List.length_take] at this
          simp at this; omega
        rw [List.getElem?_take_of_lt hlen, h0] at this
        simpa using this.symm
      rw [ht] at g2
      subst hx
      have g3 : l = Lib.itoa n ++ (Lib.itoa ws.length :: ws.map (·.data.toList)).flatMap (32 :: ·) := by simpa using g2
      rw [g3, headL_join]
      rfl
  refine ⟨he, h5, ?_⟩
  rw [show s.size - 4 = s.size - 5 + 1 from by omega, List.take_add_one, h6, h32]
  rfl
end Go.Proofs.YtmfhpddeclggfaaGreatDoor
