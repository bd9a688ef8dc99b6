import Derived.Test.YtmfhpddeclggfaaGreatDoorTf
import Derived.Test.YtmfhpddeclggfaaGreatDoorVNa
import Derived.Test.YtmfhpddeclggfaaGreatDoorOm
namespace Go.Proofs.YtmfhpddeclggfaaGreatDoor
open Go Go.RowKit
/-! Sheets and what happens to their copies: the plain facts. -/
theorem wb_63 : ∀ c : UInt8, wb c.toNat = true → c ≠ 63 ∧ c ≠ 64 ∧ c ≠ 10 := by
  have h : ∀ c : Fin 256, wb c.val = true → c.val ≠ 63 ∧ c.val ≠ 64 ∧ c.val ≠ 10 := by decide +kernel
  intro c hc
  obtain ⟨h1, h2, h3⟩ := h ⟨c.toNat, c.toNat_lt⟩ hc
  exact ⟨fun e => h1 (by rw [e]; rfl), fun e => h2 (by rw [e]; rfl), fun e => h3 (by rw [e]; rfl)⟩
theorem itoa_64 (n : Int) : ∀ c ∈ Lib.itoa n, c ≠ 64 := fun c hc e => by
  have k : ∀ u, ∀ c ∈ Lib.decDigits u, c ≠ 64 := fun u c hc e => by
    have := decDigits_byte u c hc
    rw [e] at this
    exact absurd this.2 (by decide)
  unfold Lib.itoa at hc
  split at hc
  · rcases List.mem_cons.1 hc with rfl | h
    · exact absurd e (by decide)
    · exact k _ c h e
  · exact k _ c hc e
theorem itoa_63 (n : Int) : ∀ c ∈ Lib.itoa n, c ≠ 63 := fun c hc => head_63 n c (List.mem_append_left _ (List.mem_cons_of_mem _ hc))
/-- A line's text: its mark, and behind it neither a mark nor a blot. -/
theorem line_tail {n : Int} {ws : List ByteArray} (h : lineErr n ws = 0) : ∃ r, lineT n ws = 64 :: r ∧ ∀ c ∈ r, c ≠ 64 ∧ c ≠ 63 := by
  obtain ⟨-, -, -, hw⟩ := lineErr_ok h
  refine ⟨Lib.itoa n ++ 32 :: (Lib.itoa ws.length ++ (ws.map (·.data.toList) ++ [four (chk (headL n ws))]).flatMap (32 :: ·)), by rw [lineT_fields]; rfl, fun c hc => ?_⟩
  rcases List.mem_append.1 hc with hc | hc
  · exact ⟨itoa_64 n c hc, itoa_63 n c hc⟩
  rcases List.mem_cons.1 hc with rfl | hc
  · exact ⟨by decide, by decide⟩
  rcases List.mem_append.1 hc with hc | hc
  · exact ⟨itoa_64 _ c hc, itoa_63 _ c hc⟩
  obtain ⟨p, hp, hcp⟩ := List.mem_flatMap.1 hc
  rcases List.mem_cons.1 hcp with rfl | hcp
  · exact ⟨by decide, by decide⟩
  rcases List.mem_append.1 hp with hp | hp
  · obtain ⟨w, hww, rfl⟩ := List.mem_map.1 hp
    have h5 := List.all_eq_true.1 hw w hww
    unfold wordL at h5
    rw [Bool.and_eq_true] at h5
    have := wb_63 c (List.all_eq_true.1 h5.2 c hcp)
    exact ⟨this.2.1, this.1⟩
  · obtain rfl := List.mem_singleton.1 hp
    have h6 : c ∈ Lib.itoa (10000 + chk (headL n ws) : Nat) := by
      have := List.mem_of_mem_drop hcp
      unfold Lib.itoa
      split
      · omega
      · rw [Int.toNat_natCast]; exact this
    exact ⟨itoa_64 _ c h6, itoa_63 _ c h6⟩
structure LnS (s : ByteArray) (n : Int) : Prop where
  ok : readErr s = 0
  sp : spk s.data.toList = some n
theorem LnS.form {s : ByteArray} {n : Int} (h : LnS s n) : ∃ r, s.data.toList = 64 :: r ∧ ∀ c ∈ r, c ≠ 64 ∧ c ≠ 63 := by
  obtain ⟨h1, h2⟩ := read_ok h.ok
  obtain ⟨r, hr, hk⟩ := line_tail h1
  exact ⟨r, by rw [← h2, bs_list, hr], hk⟩
theorem LnS.no63 {s : ByteArray} {n : Int} (h : LnS s n) : ∀ c ∈ s.data.toList, c ≠ 63 := fun c hc => by
  obtain ⟨r, hr, hk⟩ := h.form
  rw [hr] at hc
  rcases List.mem_cons.1 hc with rfl | hc
  · decide
  · exact (hk c hc).2
theorem LnS.no10 {s : ByteArray} {n : Int} (h : LnS s n) : ∀ c ∈ s.data.toList, c ≠ 10 := fun c hc => by
  obtain ⟨h1, h2⟩ := read_ok h.ok
  rw [← h2, bs_list] at hc
  exact line_no_feed h1 c hc
theorem LnS.pos {s : ByteArray} {n : Int} (h : LnS s n) : 0 < s.data.toList.length := by
  obtain ⟨r, hr, -⟩ := h.form
  rw [hr]; simp
theorem ln_write {n : Int} {ws : List ByteArray} (h : lineErr n ws = 0) : LnS (bs (lineT n ws)) n := ⟨(read_line h).2.2, by rw [bs_list]; exact spk_line h⟩
/-- What speaks begins with a mark. -/
theorem spk_mark {l : List UInt8} {n : Int} (h : spk l = some n) : ∃ r, l = 64 :: r := by
  obtain ⟨-, x, hx⟩ := spk_some h
  exact ⟨_, hx⟩
/-! Pieces of joined contents. -/
theorem spL_joinT (c : UInt8) : ∀ (a b : List UInt8), spL c (a ++ c :: b) = spL c a ++ spL c b
  | [], b => by simp [spL]
  | x :: a, b => by
    have ih := spL_joinT c a b
    rw [List.cons_append]
    by_cases hx : x = c
    · rw [show spL c (x :: (a ++ c :: b)) = [] :: spL c (a ++ c :: b) from by simp [spL, hx], show spL c (x :: a) = [] :: spL c a from by simp [spL, hx], ih]
      rfl
    · have h0 := spL_ne c a
      obtain ⟨p, ps, hp⟩ : ∃ p ps, spL c a = p :: ps := by
        cases h : spL c a with
        | nil => exact absurd h h0
        | cons p ps => exact ⟨p, ps, rfl⟩
      rw [hp] at ih
      have e1 : spL c (x :: (a ++ c :: b)) = (x :: p) :: (ps ++ spL c b) := by
        conv => lhs; unfold spL
        rw [if_neg hx, ih]
        rfl
      have e2 : spL c (x :: a) = (x :: p) :: ps := by
        conv => lhs; unfold spL
        rw [if_neg hx, hp]
      rw [e1, e2]
      rfl
theorem partsF_join (a b : List UInt8) : partsF (bs (a ++ 10 :: b)) = partsF (bs a) ++ partsF (bs b) := data_inj (by
  rw [List.map_append, parts_spl, parts_spl, parts_spl, bs_list, bs_list, bs_list, spL_joinT])
theorem scL_join (a b : List UInt8) : scL (bs (a ++ 10 :: b)) = scL (bs a) ++ scL (bs b) := by
  unfold scL partsN
  rw [partsF_join, List.filter_append, List.filterMap_append]
theorem scL_empty : scL (bs []) = [] := by
  have h1 : partsF (bs []) = [bs []] := data_inj (by rw [parts_spl]; rfl)
  have h5 : full (bs []) = false := by rw [full_size, bs_size]; rfl
  unfold scL partsN
  rw [h1]
  simp [h5]
theorem partsN_plain {l : List UInt8} (h : ∀ c ∈ l, c ≠ 10) : partsN (bs l) = if l.length = 0 then [] else [bs l] := by
  have h1 : partsF (bs l) = [bs l] := data_inj (by rw [parts_spl, bs_list, spL_none h]; rfl)
  unfold partsN
  rw [h1]
  have h2 := full_size (bs l)
  rw [bs_size] at h2
  split
  · rename_i h0
    rw [h0] at h2
    simp [h2]
  · rename_i h0
    have : full (bs l) = true := by rw [h2]; exact bne_iff_ne.2 h0
    simp [this]
/-- A copy of contents, each with its line feed. -/
def cpyL (cs : List (List UInt8)) : List UInt8 := cs.flatMap fun c => c ++ [10]
theorem scL_cpy : ∀ cs : List (List UInt8), scL (bs (cpyL cs)) = cs.flatMap fun c => scL (bs c)
  | [] => scL_empty
  | c :: cs => by
    have h1 : cpyL (c :: cs) = c ++ 10 :: cpyL cs := by simp [cpyL]
    rw [h1, scL_join, scL_cpy cs, List.flatMap_cons]
theorem scL_in {c : ByteArray} {x : Sc} (h : x ∈ scL c) : x.t ∈ partsN c ∧ spk x.t.data.toList = some x.n ∧ x.b = decide (readErr x.t = 0) := by
  obtain ⟨p, hp, hx⟩ := List.mem_filterMap.1 h
  obtain ⟨h3, rfl, h5⟩ := sc1_some hx
  exact ⟨hp, h3, h5⟩
/-- A part of a line's beginning, with blots. -/
structure Bl (s c : List UInt8) : Prop where
  len : c.length ≤ s.length
  at' : ∀ p, p < c.length → c.getD p 0 = 63 ∨ c.getD p 0 = s.getD p 0
theorem Bl.refl (s : List UInt8) : Bl s s := ⟨Nat.le_refl _, fun _ _ => .inr rfl⟩
theorem Bl.set {s c : List UInt8} (h : Bl s c) (k : Nat) : Bl s (c.set k 63) := ⟨by rw [List.length_set]; exact h.len, fun p hp => by
  rw [List.length_set] at hp
  by_cases e : k = p
  · subst e
    left
    rw [List.getD, List.getElem?_set_self hp]
    rfl
  · rw [List.getD, List.getElem?_set_ne e]
    exact h.at' p hp⟩
theorem Bl.take {s c : List UInt8} (h : Bl s c) (k : Nat) : Bl s (c.take k) := ⟨by have := h.len; rw [List.length_take]; omega, fun p hp => by
  rw [List.length_take] at hp
  rw [List.getD, List.getElem?_take_of_lt (by omega)]
  exact h.at' p (by omega)⟩
theorem Bl.blot {s : List UInt8} : ∀ (pl : List Nat) {c : List UInt8}, Bl s c → Bl s (blotL c pl)
  | [], _, h => h
  | p :: pl, c, h => Bl.blot pl (c := c.set (p % c.length) 63) (h.set _)
theorem blotL_len : ∀ (pl : List Nat) (c : List UInt8), (blotL c pl).length = c.length
  | [], _ => rfl
  | p :: pl, c => by
    show (blotL (c.set (p % c.length) 63) pl).length = _
    rw [blotL_len pl, List.length_set]
theorem getD_in {l : List UInt8} {p : Nat} (h : p < l.length) : l.getD p 0 ∈ l := by
  rw [List.getD, List.getElem?_eq_getElem h]; exact List.getElem_mem h
theorem Bl.mem {s c : List UInt8} (h : Bl s c) {b : UInt8} (hb : b ∈ c) : b = 63 ∨ b ∈ s := by
  obtain ⟨k, hk, rfl⟩ := List.getElem_of_mem hb
  have := h.at' k hk
  rw [List.getD, List.getElem?_eq_getElem hk, Option.getD_some] at this
  rcases this with e | e
  · exact .inl e
  · exact .inr (by rw [e]; exact getD_in (Nat.lt_of_lt_of_le hk h.len))
/-- Without blots it is the beginning. -/
theorem Bl.plain {s c : List UInt8} (h : Bl s c) (k : Nat) (hk : k ≤ c.length) (hn : ∀ p, p < k → c.getD p 0 ≠ 63) : c.take k = s.take k := by
  have hl := h.len
  refine List.ext_getElem (by rw [List.length_take, List.length_take]; omega) fun i h1 h2 => ?_
  rw [List.length_take] at h1
  rw [List.getElem_take, List.getElem_take]
  have h3 := (h.at' i (by omega)).resolve_left (hn i (by omega))
  rwa [List.getD, List.getD, List.getElem?_eq_getElem (by omega), List.getElem?_eq_getElem (by omega)] at h3
theorem ok_no63 {t : ByteArray} (h : readErr t = 0) : ∀ c ∈ t.data.toList, c ≠ 63 := fun c hc => by
  obtain ⟨h1, h2⟩ := read_ok h
  obtain ⟨r, hr, hk⟩ := line_tail h1
  rw [← h2, bs_list, hr] at hc
  rcases List.mem_cons.1 hc with rfl | hc
  · decide
  · exact (hk c hc).2
/-- A part with blots that is not the line is no line. -/
theorem Bl.no {s : ByteArray} {n : Int} {c : List UInt8} (hs : LnS s n) (h : Bl s.data.toList c) (hne : c ≠ s.data.toList) : readErr (bs c) ≠ 0 := fun h0 => by
  have hl := h.len
  have h1 := h.plain c.length (Nat.le_refl _) (fun p hp => ok_no63 h0 _ (by rw [bs_list]; exact getD_in hp))
  rw [List.take_length] at h1
  by_cases e : c.length < s.data.toList.length
  · have h2 := cut_no hs.ok c.length e
    have h3 : s.extract 0 c.length = bs c := data_inj1 (by rw [Lib.extract_from_zero, bs_list, ← h1])
    rw [h3] at h2
    exact h2 h0
  · exact hne (by rw [h1]; exact List.take_of_length_le (by omega))
/-- It speaks of the line's number, if of any. -/
theorem Bl.num {s : ByteArray} {n m : Int} {c : List UInt8} (hs : LnS s n) (h : Bl s.data.toList c) (hm : spk c = some m) : m = n := by
  obtain ⟨⟨g1, g2⟩, x, hx⟩ := spk_some hm
  have hl : c.length = ((64 :: Lib.itoa m) ++ [32]).length + x.length := by rw [hx]; simp; omega
  have e0 : c.take ((64 :: Lib.itoa m) ++ [32]).length = (64 :: Lib.itoa m) ++ [32] := by
    have : c = ((64 :: Lib.itoa m) ++ [32]) ++ x := by rw [hx]; simp
    rw [this, List.take_left]
  have h1 := h.plain ((64 :: Lib.itoa m) ++ [32]).length (by omega) (fun p hp => by
    have h5 : (c.take ((64 :: Lib.itoa m) ++ [32]).length).getD p 0 = c.getD p 0 := by rw [List.getD, List.getElem?_take_of_lt hp]; rfl
    rw [← h5, e0]
    exact head_63 m _ (getD_in hp))
  rw [e0] at h1
  have h2 : s.data.toList = (64 :: Lib.itoa m) ++ 32 :: s.data.toList.drop ((64 :: Lib.itoa m) ++ [32]).length := by
    conv => lhs; rw [← List.take_append_drop ((64 :: Lib.itoa m) ++ [32]).length s.data.toList]
    rw [← h1]
    simp
  have h3 := hs.sp
  rw [h2, spk_of g1 g2] at h3
  exact Option.some.inj h3
/-- What is no line but of a line. -/
structure Frag (n : Int) (s : ByteArray) (x : Sc) : Prop where
  no : x.b = false
  ln : readErr x.t ≠ 0
  or : (∀ b ∈ x.t.data.toList, b ≠ 63) ∨ (x.n = n ∧ Bl s.data.toList x.t.data.toList)
theorem frag_mk {n : Int} {s c : ByteArray} {x : Sc} (hx : x ∈ scL c) (h0 : readErr x.t ≠ 0) (h : (∀ b ∈ x.t.data.toList, b ≠ 63) ∨ (x.n = n ∧ Bl s.data.toList x.t.data.toList)) : Frag n s x := by
  obtain ⟨-, -, h3⟩ := scL_in hx
  exact ⟨by rw [h3]; exact decide_eq_false h0, h0, h⟩
theorem scL_plain {c : List UInt8} {x : Sc} (h : ∀ b ∈ c, b ≠ 10) (hx : x ∈ scL (bs c)) : x.t = bs c := by
  obtain ⟨h1, -, -⟩ := scL_in hx
  rw [partsN_plain h] at h1
  split at h1
  · cases h1
  · exact List.mem_singleton.1 h1
theorem frag_bl {n : Int} {s : ByteArray} {c : List UInt8} (hs : LnS s n) (h : Bl s.data.toList c) (hne : c ≠ s.data.toList) : ∀ x ∈ scL (bs c), Frag n s x := fun x hx => by
  have h10 : ∀ b ∈ c, b ≠ 10 := fun b hb => (h.mem hb).elim (fun e => by rw [e]; decide) (hs.no10 b)
  have ht := scL_plain h10 hx
  obtain ⟨-, h2, -⟩ := scL_in hx
  refine frag_mk hx (by rw [ht]; exact h.no hs hne) (.inr ⟨?_, by rw [ht]; exact h⟩)
  rw [ht, bs_list] at h2
  exact h.num hs h2
theorem frag_of {n : Int} {s : ByteArray} (hs : LnS s n) (f : Ft) {c : List UInt8} (hc : fatC s.data.toList f = some c) (hne : c ≠ s.data.toList) : ∀ x ∈ scL (bs c), Frag n s x := by
  have hp := hs.pos
  have hi : f.pos % s.data.toList.length < s.data.toList.length := Nat.mod_lt _ hp
  obtain ⟨i, hie⟩ : ∃ i, f.pos % s.data.toList.length = i := ⟨_, rfl⟩
  unfold fatC at hc
  rw [hie] at hc hi
  split at hc
  · cases hc
  split at hc
  · cases hc
    exact frag_bl hs ((Bl.refl _).take i) hne
  split at hc
  · cases hc
    exact frag_bl hs ((Bl.refl _).blot _) hne
  split at hc
  · cases hc
    exact frag_bl hs (((Bl.refl _).blot _).take i) hne
  split at hc
  · cases hc
    by_cases e63 : f.byt = 63
    · rw [e63] at hne ⊢
      exact frag_bl hs ((Bl.refl _).set i) hne
    by_cases e10 : f.byt = 10
    · rw [set_at _ _ _ hi, e10, scL_join]
      intro x hx
      rcases List.mem_append.1 hx with hx | hx
      · refine frag_bl hs ((Bl.refl _).take i) (fun e => ?_) x hx
        have := congrArg List.length e
        rw [List.length_take] at this
        omega
      · exfalso
        obtain ⟨r, hr, hk⟩ := hs.form
        have hd : ∀ b ∈ s.data.toList.drop (i + 1), b ≠ 10 ∧ b ≠ 64 := fun b hb => ⟨hs.no10 b (List.mem_of_mem_drop hb), by
          rw [hr, List.drop_succ_cons] at hb
          exact (hk b (List.mem_of_mem_drop hb)).1⟩
        have ht := scL_plain (fun b hb => (hd b hb).1) hx
        obtain ⟨-, h2, -⟩ := scL_in hx
        obtain ⟨r', hr'⟩ := spk_mark h2
        rw [ht, bs_list] at hr'
        exact (hd 64 (by rw [hr']; exact List.mem_cons_self)).2 rfl
    · have hm : ∀ b ∈ s.data.toList.set i f.byt, b ≠ 10 ∧ b ≠ 63 := fun b hb => by
        rcases List.mem_or_eq_of_mem_set hb with h | h
        · exact ⟨hs.no10 b h, hs.no63 b h⟩
        · rw [h]; exact ⟨e10, e63⟩
      intro x hx
      have ht := scL_plain (fun b hb => (hm b hb).1) hx
      refine frag_mk hx (fun h0 => ?_) (.inl fun b hb => by rw [ht, bs_list] at hb; exact (hm b hb).2)
      rw [ht] at h0
      have h5 := (one_iff hs.ok i f.byt hi).1 h0
      refine hne ?_
      rw [set_at _ _ _ hi, ← h5]
      exact (split_at _ i hi).symm
  split at hc
  · by_cases h1 : i + 1 < s.data.toList.length
    · rw [if_pos h1] at hc
      cases hc
      have hm : ∀ b ∈ swp s.data.toList i, b ∈ s.data.toList := fun b hb => by
        unfold swp at hb
        rcases List.mem_or_eq_of_mem_set hb with h | h
        · rcases List.mem_or_eq_of_mem_set h with h | h
          · exact h
          · rw [h]; exact getD_in h1
        · rw [h]; exact getD_in hi
      intro x hx
      have ht := scL_plain (fun b hb => hs.no10 b (hm b hb)) hx
      refine frag_mk hx (fun h0 => ?_) (.inl fun b hb => by rw [ht, bs_list] at hb; exact hs.no63 b (hm b hb))
      rw [ht] at h0
      have h5 := (two_iff hs.ok i h1).1 h0
      refine hne ?_
      rw [swp_at _ _ h1, ← h5]
      conv => rhs; rw [split_two s.data.toList i h1]
      rw [← h5]
    · rw [if_neg h1] at hc
      cases hc
      exact absurd rfl hne
  · cases hc
    exact absurd rfl hne
theorem scL_whole {n : Int} {s : ByteArray} (hs : LnS s n) : scL s = [⟨n, s, true⟩] := by
  have h1 : scL (bs s.data.toList) = (partsN (bs s.data.toList)).filterMap sc1 := rfl
  have hp := hs.pos
  rw [partsN_plain hs.no10, if_neg (by omega)] at h1
  rw [show bs s.data.toList = s from rfl] at h1
  rw [h1]
  have h2 : sc1 s = some ⟨n, s, true⟩ := by
    unfold sc1
    rw [hs.sp]
    dsimp only
    rw [hs.ok]
    rfl
  simp [h2]
/-! The desk of a story. -/
/-- Sheets and their copies: of each copy, of each line, what is there. -/
structure Story (ts : List ByteArray) (H : List (List (Option (List UInt8)))) : Prop where
  ln : ∀ i, i < ts.length → LnS (ts.getD i ByteArray.empty) ((i : Int) + 1)
  len : ∀ h ∈ H, h.length ≤ ts.length
  fr : ∀ h ∈ H, ∀ i c, h[i]? = some (some c) → c = (ts.getD i ByteArray.empty).data.toList ∨ ∀ x ∈ scL (bs c), Frag ((i : Int) + 1) (ts.getD i ByteArray.empty) x
/-- A copy. -/
def cpO (h : List (Option (List UInt8))) : ByteArray := bs (cpyL (h.filterMap id))
theorem scL_cpO (h : List (Option (List UInt8))) (x : Sc) : x ∈ scL (cpO h) ↔ ∃ (i : Nat) (c : List UInt8), h[i]? = some (some c) ∧ x ∈ scL (bs c) := by
  unfold cpO
  rw [scL_cpy, List.mem_flatMap]
  constructor
  · rintro ⟨c, hc, hx⟩
    obtain ⟨o, ho, he⟩ := List.mem_filterMap.1 hc
    obtain ⟨i, hi, rfl⟩ := List.getElem_of_mem ho
    exact ⟨i, c, by rw [List.getElem?_eq_getElem hi]; exact congrArg some he, hx⟩
  · rintro ⟨i, c, hc, hx⟩
    exact ⟨c, List.mem_filterMap.2 ⟨some c, List.mem_of_getElem? hc, rfl⟩, hx⟩
theorem Story.lt {ts : List ByteArray} {H : List (List (Option (List UInt8)))} (S : Story ts H) {h : List (Option (List UInt8))} (hh : h ∈ H) {i : Nat} {o : Option (List UInt8)} (e : h[i]? = some o) : i < ts.length :=
  Nat.lt_of_lt_of_le (List.getElem?_eq_some_iff.1 e).1 (S.len h hh)
/-- What a copy's scraps are. -/
theorem Story.sc {ts : List ByteArray} {H : List (List (Option (List UInt8)))} (S : Story ts H) {h : List (Option (List UInt8))} (hh : h ∈ H) {x : Sc} (hx : x ∈ scL (cpO h)) :
    ∃ i, i < ts.length ∧ ((x = ⟨(i : Int) + 1, ts.getD i ByteArray.empty, true⟩ ∧ h[i]? = some (some (ts.getD i ByteArray.empty).data.toList)) ∨ Frag ((i : Int) + 1) (ts.getD i ByteArray.empty) x) := by
  obtain ⟨i, c, hc, hx⟩ := (scL_cpO h x).1 hx
  have hi := S.lt hh hc
  refine ⟨i, hi, ?_⟩
  rcases S.fr h hh i c hc with e | e
  · left
    rw [e, show bs (ts.getD i ByteArray.empty).data.toList = ts.getD i ByteArray.empty from rfl, scL_whole (S.ln i hi)] at hx
    exact ⟨List.mem_singleton.1 hx, by rw [hc, e]⟩
  · exact .inr (e x hx)
theorem Story.whole {ts : List ByteArray} {H : List (List (Option (List UInt8)))} (S : Story ts H) {h : List (Option (List UInt8))} (hh : h ∈ H) (i : Nat) :
    (∃ x ∈ scL (cpO h), x.b = true ∧ x.n.toNat = i + 1) ↔ h[i]? = some (some (ts.getD i ByteArray.empty).data.toList) := by
  constructor
  · rintro ⟨x, hx, hb, hn⟩
    obtain ⟨j, hj, ⟨rfl, e⟩ | e⟩ := S.sc hh hx
    · have hn' : ((j : Int) + 1).toNat = i + 1 := hn
      obtain rfl : j = i := by omega
      exact e
    · rw [e.no] at hb; cases hb
  · intro e
    have hi := S.lt hh e
    refine ⟨⟨(i : Int) + 1, ts.getD i ByteArray.empty, true⟩, (scL_cpO h _).2 ⟨i, _, e, ?_⟩, rfl, by show ((i : Int) + 1).toNat = _; omega⟩
    rw [show bs (ts.getD i ByteArray.empty).data.toList = ts.getD i ByteArray.empty from rfl, scL_whole (S.ln i hi)]
    exact List.mem_singleton.2 rfl
/-- Which copies have a scrap. -/
theorem ad_cp (k : Int) (n : Nat) (t : ByteArray) : ∀ (l : List Sc) (d : DS), (l.foldl (adD k) d).cp n t = if (∃ s ∈ l, s.b = true ∧ s.n.toNat = n ∧ s.t = t) ∧ (d.cp n t).getLast? ≠ some k then d.cp n t ++ [k] else d.cp n t
  | [], d => by simp
  | s :: l, d => by
    rw [List.foldl_cons, ad_cp k n t l]
    have e1 : (adD k d s).cp n t = if s.b = true ∧ s.n.toNat = n ∧ s.t = t then addL (d.cp n t) k else d.cp n t := by
      unfold adD
      by_cases hb : s.b = true
      · rw [if_pos hb]
        dsimp only
        by_cases hc : n = s.n.toNat ∧ t = s.t
        · rw [if_pos hc, if_pos ⟨hb, hc.1.symm, hc.2.symm⟩]
        · rw [if_neg hc, if_neg (fun h => hc ⟨h.2.1.symm, h.2.2.symm⟩)]
      · rw [if_neg hb, if_neg (fun h => hb h.1)]
    rw [e1]
    by_cases hs : s.b = true ∧ s.n.toNat = n ∧ s.t = t
    · rw [if_pos hs]
      have e2 : ∃ x ∈ s :: l, x.b = true ∧ x.n.toNat = n ∧ x.t = t := ⟨s, List.mem_cons_self, hs⟩
      unfold addL
      by_cases hk : (d.cp n t).getLast? = some k
      · rw [if_pos hk, if_neg (fun h => h.2 hk), if_neg (fun h => h.2 hk)]
      · rw [if_neg hk, if_neg (fun h => h.2 (by simp)), if_pos ⟨e2, hk⟩]
    · rw [if_neg hs]
      have e2 : (∃ x ∈ s :: l, x.b = true ∧ x.n.toNat = n ∧ x.t = t) ↔ ∃ x ∈ l, x.b = true ∧ x.n.toNat = n ∧ x.t = t := by
        constructor
        · rintro ⟨x, hx, h⟩
          rcases List.mem_cons.1 hx with rfl | hx
          · exact absurd h hs
          · exact ⟨x, hx, h⟩
        · rintro ⟨x, hx, h⟩
          exact ⟨x, List.mem_cons_of_mem _ hx, h⟩
      simp only [e2]
open Classical in
theorem lay_cp (ss : List (List Sc)) (n : Nat) (t : ByteArray) : ∀ k, (layF ss k).cp n t = ((List.range k).filter fun j => decide (∃ s ∈ ss.getD j [], s.b = true ∧ s.n.toNat = n ∧ s.t = t)).map fun j => ((j : Nat) : Int)
  | 0 => rfl
  | k + 1 => by
    have ih := lay_cp ss n t k
    rw [layF, ad_cp, List.range_succ, List.filter_append, List.map_append, ← ih]
    have hl : ((layF ss k).cp n t).getLast? ≠ some (k : Int) := fun e => by
      have := List.mem_of_getLast? e
      rw [ih] at this
      obtain ⟨j, hj, e⟩ := List.mem_map.1 this
      have := List.mem_range.1 (List.mem_filter.1 hj).1
      omega
    by_cases h : ∃ s ∈ ss.getD k [], s.b = true ∧ s.n.toNat = n ∧ s.t = t
    · rw [if_pos ⟨h, hl⟩, List.filter_cons, if_pos (decide_eq_true h)]
      rfl
    · rw [if_neg (fun g => h g.1), List.filter_cons, if_neg (by rw [decide_eq_true_eq]; exact h)]
      simp
/-- The indices of the copies in which a line is whole. -/
def whl (ts : List ByteArray) (H : List (List (Option (List UInt8)))) (i : Nat) : List Int := ((List.range H.length).filter fun k => decide ((H.getD k [])[i]? = some (some (ts.getD i ByteArray.empty).data.toList))).map fun k => ((k : Nat) : Int)
def dsk (H : List (List (Option (List UInt8)))) : DS := layF ((H.map cpO).map scL) (H.map cpO).length
theorem Story.cp {ts : List ByteArray} {H : List (List (Option (List UInt8)))} (S : Story ts H) (i : Nat) (hi : i < ts.length) : (dsk H).cp (i + 1) (ts.getD i ByteArray.empty) = whl ts H i := by
  unfold dsk whl
  rw [lay_cp, List.length_map]
  congr 1
  refine List.filter_congr fun k hk => ?_
  have hk' := List.mem_range.1 hk
  rw [decide_eq_decide]
  have e1 : ((H.map cpO).map scL).getD k [] = scL (cpO (H.getD k [])) := by
    simp [List.getD, List.getElem?_eq_getElem hk']
  have hm : H.getD k [] ∈ H := by rw [List.getD, List.getElem?_eq_getElem hk']; exact List.getElem_mem hk'
  rw [e1, ← S.whole hm i]
  constructor
  · rintro ⟨x, hx, h1, h2, -⟩; exact ⟨x, hx, h1, h2⟩
  · rintro ⟨x, hx, h1, h2⟩
    obtain ⟨j, hj, ⟨rfl, e⟩ | e⟩ := S.sc hm hx
    · have hn' : ((j : Int) + 1).toNat = i + 1 := h2
      obtain rfl : j = i := by omega
      exact ⟨_, hx, h1, h2, rfl⟩
    · rw [e.no] at h1; cases h1
theorem story_inv (H : List (List (Option (List UInt8)))) : InvD (dsk H) (fun s => ∃ h ∈ H, s ∈ scL (cpO h)) := (coB_inv (H.map cpO)).congr (fun s => by
  unfold scS
  constructor
  · rintro ⟨c, hc, hs⟩
    obtain ⟨h, hh, rfl⟩ := List.mem_map.1 hc
    exact ⟨h, hh, hs⟩
  · rintro ⟨h, hh, hs⟩
    exact ⟨_, List.mem_map.2 ⟨h, hh, rfl⟩, hs⟩)
theorem Story.rs {ts : List ByteArray} {H : List (List (Option (List UInt8)))} (S : Story ts H) (n : Nat) (t : ByteArray) :
    t ∈ (dsk H).rs n ↔ ∃ i, i < ts.length ∧ n = i + 1 ∧ t = ts.getD i ByteArray.empty ∧ ∃ h ∈ H, h[i]? = some (some (ts.getD i ByteArray.empty).data.toList) := by
  rw [(story_inv H).rs]
  constructor
  · rintro ⟨x, ⟨h, hh, hx⟩, hb, hn, ht⟩
    obtain ⟨j, hj, ⟨rfl, e⟩ | e⟩ := S.sc hh hx
    · have hn' : ((j : Int) + 1).toNat = n := hn
      exact ⟨j, hj, by omega, ht.symm, h, hh, e⟩
    · rw [e.no] at hb; cases hb
  · rintro ⟨i, hi, rfl, rfl, h, hh, e⟩
    exact ⟨⟨(i : Int) + 1, ts.getD i ByteArray.empty, true⟩, ⟨h, hh, (scL_cpO h _).2 ⟨i, _, e, by
      rw [show bs (ts.getD i ByteArray.empty).data.toList = ts.getD i ByteArray.empty from rfl, scL_whole (S.ln i hi)]
      exact List.mem_singleton.2 rfl⟩⟩, rfl, by show ((i : Int) + 1).toNat = _; omega, rfl⟩
theorem Story.os {ts : List ByteArray} {H : List (List (Option (List UInt8)))} (S : Story ts H) (n : Nat) (t : ByteArray) (ht : t ∈ ((dsk H).os n).map Prod.snd) :
    readErr t ≠ 0 ∧ ((∀ b ∈ t.data.toList, b ≠ 63) ∨ ∃ i, i < ts.length ∧ n = i + 1 ∧ Bl (ts.getD i ByteArray.empty).data.toList t.data.toList) := by
  obtain ⟨x, ⟨h, hh, hx⟩, hb, hn, rfl⟩ := ((story_inv H).os n t).1 ht
  obtain ⟨j, hj, ⟨rfl, e⟩ | e⟩ := S.sc hh hx
  · cases hb
  · refine ⟨e.ln, e.or.imp id (fun ⟨h1, h2⟩ => ⟨j, hj, ?_, h2⟩)⟩
    rw [h1] at hn
    omega
/-! What overlays show. -/
theorem ov_some {ts : List ByteArray} {T : ByteArray} (h : ovO ts = some T) : ts ≠ [] ∧ (∀ t ∈ ts, t.size = T.size) ∧ (∀ k, k < T.size → oneB (colOf ts k) = true ∧ T.data.toList.getD k 0 = lastB (colOf ts k)) := by
  unfold ovO at h
  split at h
  · cases h
  rename_i h0
  split at h
  · rename_i hsz
    split at h
    · rename_i hall
      cases h
      have hm := getD_mem (List.length_pos_iff.2 h0)
      have hz : ∀ t ∈ ts, t.size = (ts.getD 0 ByteArray.empty).size := fun t ht => (sameSz_iff ts).1 hsz t ht _ hm
      obtain ⟨z, hzz⟩ : ∃ z, (ts.getD 0 ByteArray.empty).size = z := ⟨_, rfl⟩
      rw [hzz] at hall hz ⊢
      have e1 : (bs ((List.range z).map fun k => lastB (colOf ts k))).size = z := by rw [bs_size, List.length_map, List.length_range]
      rw [e1]
      refine ⟨h0, hz, fun k hk => ⟨List.all_eq_true.1 hall k (List.mem_range.2 hk), ?_⟩⟩
      rw [bs_list, List.getD, List.getElem?_map, List.getElem?_range hk]
      rfl
    · cases h
  · cases h
theorem ba_len (t : ByteArray) : t.data.toList.length = t.size := by simp
theorem ba_ext {a b : ByteArray} (h : a.size = b.size) (k : ∀ p, p < a.size → a.data.toList.getD p 0 = b.data.toList.getD p 0) : a = b := data_inj1 (List.ext_getElem (by rw [ba_len, ba_len, h]) fun i h1 h2 => by
  have := k i (by rwa [ba_len] at h1)
  rwa [List.getD, List.getD, List.getElem?_eq_getElem h1, List.getElem?_eq_getElem h2] at this)
/-- A piece without blots is the overlay. -/
theorem ov_plain {ts : List ByteArray} {T t : ByteArray} (h : ovO ts = some T) (ht : t ∈ ts) (hn : ∀ b ∈ t.data.toList, b ≠ 63) : T = t := by
  obtain ⟨-, h1, h2⟩ := ov_some h
  refine ba_ext (h1 t ht).symm fun p hp => ?_
  obtain ⟨h3, h4⟩ := h2 p hp
  rw [h4]
  have hm : t.data.toList.getD p 0 ∈ colOf ts p := List.mem_map.2 ⟨t, ht, rfl⟩
  exact (((oneB_iff _).1 h3 _ hm).resolve_left (hn _ (getD_in (by rw [ba_len, h1 t ht]; exact hp)))).symm
theorem lastB_in (l : List UInt8) : lastB l = 63 ∨ lastB l ∈ l := by
  by_cases h : lastB l = 63
  · exact .inl h
  · exact .inr (lastB_mem l h)
theorem ov_bl {ts : List ByteArray} {T : ByteArray} {s : List UInt8} (h : ovO ts = some T) (hb : ∀ t ∈ ts, Bl s t.data.toList) : Bl s T.data.toList := by
  obtain ⟨h0, h1, h2⟩ := ov_some h
  obtain ⟨t0, ht0⟩ := List.exists_mem_of_ne_nil _ h0
  refine ⟨?_, fun p hp => ?_⟩
  · have h5 := (hb t0 ht0).len
    rw [ba_len, h1 t0 ht0] at h5
    rwa [ba_len]
  · rw [ba_len] at hp
    obtain ⟨h3, h4⟩ := h2 p hp
    rw [h4]
    rcases lastB_in (colOf ts p) with e | e
    · exact .inl e
    · obtain ⟨t, ht, e⟩ := List.mem_map.1 e
      rw [← e]
      exact (hb t ht).at' p (by rw [ba_len, h1 t ht]; exact hp)
/-- What a group of pieces of one number shows, if it shows a line. -/
theorem Story.ov {ts : List ByteArray} {H : List (List (Option (List UInt8)))} (S : Story ts H) {n z : Nat} {T : ByteArray} (h : ovO ((ofL ((dsk H).os n) z).map Prod.snd) = some T) (h0 : readErr T = 0) :
    ∃ i, i < ts.length ∧ n = i + 1 ∧ T = ts.getD i ByteArray.empty ∧ z = T.size := by
  have hm : ∀ t ∈ (ofL ((dsk H).os n) z).map Prod.snd, t ∈ ((dsk H).os n).map Prod.snd ∧ t.size = z := fun t ht => (ofL_txt _ z t).1 ht
  obtain ⟨hne, hsz, -⟩ := ov_some h
  obtain ⟨t0, ht0⟩ := List.exists_mem_of_ne_nil _ hne
  have hz : z = T.size := by rw [← hsz t0 ht0]; exact (hm t0 ht0).2.symm
  have hall : ∀ t ∈ (ofL ((dsk H).os n) z).map Prod.snd, ∃ i, i < ts.length ∧ n = i + 1 ∧ Bl (ts.getD i ByteArray.empty).data.toList t.data.toList := fun t ht => by
    obtain ⟨k1, k2⟩ := S.os n t (hm t ht).1
    refine k2.resolve_left fun hb => ?_
    rw [ov_plain h ht hb] at h0
    exact k1 h0
  obtain ⟨i, hi, hn, -⟩ := hall t0 ht0
  have hb : ∀ t ∈ (ofL ((dsk H).os n) z).map Prod.snd, Bl (ts.getD i ByteArray.empty).data.toList t.data.toList := fun t ht => by
    obtain ⟨j, -, hn', e⟩ := hall t ht
    obtain rfl : j = i := by omega
    exact e
  have hT := ov_bl h hb
  refine ⟨i, hi, hn, Classical.byContradiction fun hne => ?_, hz⟩
  refine hT.no (S.ln i hi) (fun e => hne (data_inj1 e)) h0
theorem Story.ov1T {ts : List ByteArray} {H : List (List (Option (List UInt8)))} (S : Story ts H) (n z : Nat) (f : FV) (h : f ∈ ov1 (ofL ((dsk H).os n) z)) :
    ∃ i, i < ts.length ∧ n = i + 1 ∧ f.1 = (i : Int) + 1 ∧ f.2.1 = lineWs (ts.getD i ByteArray.empty) ∧ f.2.2.2 = true ∧ z = (ts.getD i ByteArray.empty).size := by
  obtain ⟨L, hL⟩ : ∃ L, ofL ((dsk H).os n) z = L := ⟨_, rfl⟩
  rw [hL] at h
  unfold Go.Proofs.YtmfhpddeclggfaaGreatDoor.ov1 at h
  split at h
  · rename_i hc
    obtain ⟨c1, c2⟩ := hc
    obtain ⟨T, hT⟩ := Option.isSome_iff_exists.1 c1
    have hS : ovS (some T) = T := rfl
    rw [hT, hS] at h c2
    rw [List.mem_singleton] at h
    rw [← hL] at hT
    obtain ⟨i, hi, hn, rfl, hz⟩ := S.ov hT c2
    refine ⟨i, hi, hn, ?_, by rw [h], by rw [h], hz⟩
    have e1 : f.1 = lineN (ts.getD i ByteArray.empty) := by rw [h]
    rw [e1]
    exact read_num c2 (S.ln i hi).sp
  · cases h
/-- What is found of a number: nothing, or the sheet's line. -/
structure Fnd (ts : List ByteArray) (H : List (List (Option (List UInt8)))) (n : Nat) (f : FV) (i : Nat) : Prop where
  lt : i < ts.length
  n : n = i + 1
  num : f.1 = (i : Int) + 1
  ws : f.2.1 = lineWs (ts.getD i ByteArray.empty)
  some : whl ts H i ≠ [] → f.2.2.2 = false ∧ f.2.2.1 = whl ts H i
  none : whl ts H i = [] → f.2.2.2 = true
theorem whl_ne {ts : List ByteArray} {H : List (List (Option (List UInt8)))} {i : Nat} : whl ts H i ≠ [] ↔ ∃ h ∈ H, h[i]? = some (some (ts.getD i ByteArray.empty).data.toList) := by
  unfold whl
  rw [Ne, List.map_eq_nil_iff, List.filter_eq_nil_iff]
  constructor
  · intro h
    refine Classical.byContradiction fun hn => h fun k hk hd => hn ⟨H.getD k [], ?_, of_decide_eq_true hd⟩
    rw [List.getD, List.getElem?_eq_getElem (List.mem_range.1 hk)]
    exact List.getElem_mem _
  · rintro ⟨h, hh, e⟩ hn
    obtain ⟨k, hk, rfl⟩ := List.getElem_of_mem hh
    refine hn k (List.mem_range.2 hk) (decide_eq_true ?_)
    rw [List.getD, List.getElem?_eq_getElem hk]
    exact e
theorem nodup_one {l : List ByteArray} {a : ByteArray} (hn : l.Nodup) (h : ∀ t ∈ l, t = a) (h0 : l ≠ []) : l = [a] := by
  cases l with
  | nil => exact absurd rfl h0
  | cons x l =>
    obtain rfl := h x List.mem_cons_self
    cases l with
    | nil => rfl
    | cons y l =>
      have := h y (List.mem_cons_of_mem _ List.mem_cons_self)
      subst this
      exact absurd List.mem_cons_self (List.nodup_cons.1 hn).1
theorem Story.fd {ts : List ByteArray} {H : List (List (Option (List UInt8)))} (S : Story ts H) (n : Nat) : (fdV (dsk H) n).length ≤ 1 ∧ ∀ f ∈ fdV (dsk H) n, ∃ i, Fnd ts H n f i := by
  unfold fdV
  by_cases h0 : (dsk H).rs n = []
  · rw [if_pos h0]
    refine ⟨rsD_len _, fun f hf => ?_⟩
    unfold rsD at hf
    split at hf
    · cases hf
    · unfold rsF at hf
      obtain ⟨z, -, hz⟩ := List.mem_flatMap.1 hf
      obtain ⟨i, g1, g2, g3, g4, g5, -⟩ := S.ov1T n z.toNat f hz
      refine ⟨i, g1, g2, g3, g4, fun h => ?_, fun _ => g5⟩
      obtain ⟨h, hh, e⟩ := whl_ne.1 h
      have := (S.rs n _).2 ⟨i, g1, g2, rfl, h, hh, e⟩
      rw [h0] at this
      cases this
  · rw [if_neg h0]
    obtain ⟨t, ht⟩ := List.exists_mem_of_ne_nil _ h0
    obtain ⟨i, hi, rfl, rfl, h, hh, e⟩ := (S.rs n t).1 ht
    have h1 : (dsk H).rs (i + 1) = [ts.getD i ByteArray.empty] := nodup_one ((story_inv H).nd _) (fun t ht => by
      obtain ⟨j, -, hj, e, -⟩ := (S.rs _ t).1 ht
      obtain rfl : i = j := by omega
      exact e) h0
    rw [h1]
    refine ⟨Nat.le_refl _, fun f hf => ⟨i, ?_⟩⟩
    obtain rfl := List.mem_singleton.1 hf
    have e1 : rdn (ts.getD i ByteArray.empty) = lineN (ts.getD i ByteArray.empty) := if_pos (S.ln i hi).ok
    have e2 : rdw (ts.getD i ByteArray.empty) = lineWs (ts.getD i ByteArray.empty) := if_pos (S.ln i hi).ok
    have hw : whl ts H i ≠ [] := whl_ne.2 ⟨h, hh, e⟩
    exact ⟨hi, rfl, by show rdn _ = _; rw [e1]; exact read_num (S.ln i hi).ok (S.ln i hi).sp, e2, fun _ => ⟨rfl, S.cp i hi⟩, fun h => absurd h hw⟩
theorem coD_mem {d : DS} (h1 : ∀ n, (fdV d n).length ≤ 1) : ∀ k, (coD d k).2.1 = [] ∧ ∀ f, f ∈ (coD d k).1 ↔ ∃ n, 1 ≤ n ∧ n ≤ k ∧ f ∈ fdV d n
  | 0 => ⟨rfl, fun f => ⟨fun h => (by cases h), fun ⟨n, a, b, _⟩ => by omega⟩⟩
  | k + 1 => by
    obtain ⟨i1, i2⟩ := coD_mem h1 k
    have hl := h1 (k + 1)
    rw [coD]
    unfold stB
    obtain ⟨F, hF⟩ : ∃ F, fdV d (k + 1) = F := ⟨_, rfl⟩
    rw [hF] at hl ⊢
    have step : ∀ f, (∃ n, 1 ≤ n ∧ n ≤ k + 1 ∧ f ∈ fdV d n) ↔ (∃ n, 1 ≤ n ∧ n ≤ k ∧ f ∈ fdV d n) ∨ f ∈ F := fun f => by
      constructor
      · rintro ⟨n, a, b, hf⟩
        by_cases e : n = k + 1
        · subst e; rw [hF] at hf; exact .inr hf
        · exact .inl ⟨n, a, by omega, hf⟩
      · rintro (⟨n, a, b, hf⟩ | hf)
        · exact ⟨n, a, by omega, hf⟩
        · exact ⟨k + 1, by omega, by omega, by rw [hF]; exact hf⟩
    match F, hl with
    | [], _ => exact ⟨i1, fun f => by rw [step]; simp [i2]⟩
    | [g], _ => exact ⟨i1, fun f => by rw [step]; simp [i2]⟩
    | g :: g' :: F, hl => simp at hl
/-- The book of a story. -/
structure Told (ts : List ByteArray) (H : List (List (Option (List UInt8)))) (B : BV) : Prop where
  clash : B.2.1 = []
  fnd : ∀ f ∈ B.1, ∃ i, Fnd ts H (i + 1) f i
  wh : ∀ i, i < ts.length → whl ts H i ≠ [] → ∃ f ∈ B.1, f.1 = (i : Int) + 1
theorem Story.told {ts : List ByteArray} {H : List (List (Option (List UInt8)))} (S : Story ts H) : Told ts H (coB (H.map cpO)) := by
  have e0 : coB (H.map cpO) = coD (dsk H) (dsk H).last := rfl
  rw [e0]
  obtain ⟨h1, h2⟩ := coD_mem (fun n => (S.fd n).1) (dsk H).last
  refine ⟨h1, fun f hf => ?_, fun i hi hw => ?_⟩
  · obtain ⟨n, -, -, hf⟩ := (h2 f).1 hf
    obtain ⟨i, h⟩ := (S.fd n).2 f hf
    obtain rfl := h.n
    exact ⟨i, h⟩
  · obtain ⟨h, hh, e⟩ := whl_ne.1 hw
    have hm := (S.rs (i + 1) _).2 ⟨i, hi, rfl, rfl, h, hh, e⟩
    obtain ⟨x, hx, -, hn, -⟩ := ((story_inv H).rs (i + 1) _).1 hm
    have hle := (story_inv H).le x hx
    have hf : fdV (dsk H) (i + 1) ≠ [] := by
      unfold fdV
      rw [if_neg (List.ne_nil_of_mem hm)]
      exact fun e => List.ne_nil_of_mem hm (List.map_eq_nil_iff.1 e)
    obtain ⟨f, hf⟩ := List.exists_mem_of_ne_nil _ hf
    obtain ⟨j, hj⟩ := (S.fd (i + 1)).2 f hf
    have := hj.n
    obtain rfl : i = j := by omega
    exact ⟨f, (h2 f).2 ⟨i + 1, by omega, by omega, hf⟩, hj.num⟩
/-! What is restored. -/
theorem ov_of {ts : List ByteArray} {s : ByteArray} (h0 : ts ≠ []) (hz : ∀ t ∈ ts, t.size = s.size) (hb : ∀ t ∈ ts, Bl s.data.toList t.data.toList) (hr : ∀ p, p < s.size → s.data.toList.getD p 0 ≠ 63 ∧ ∃ t ∈ ts, t.data.toList.getD p 0 ≠ 63) : ovO ts = some s := by
  have hm := getD_mem (List.length_pos_iff.2 h0)
  have hsz : sameSz ts = true := (sameSz_iff ts).2 fun a ha b hb => by rw [hz a ha, hz b hb]
  have hcol : ∀ p, p < s.size → (∀ c ∈ colOf ts p, c = 63 ∨ c = s.data.toList.getD p 0) ∧ s.data.toList.getD p 0 ∈ colOf ts p := fun p hp => by
    have h1 : ∀ t ∈ ts, t.data.toList.getD p 0 = 63 ∨ t.data.toList.getD p 0 = s.data.toList.getD p 0 := fun t ht => (hb t ht).at' p (by rw [ba_len, hz t ht]; exact hp)
    refine ⟨fun c hc => ?_, ?_⟩
    · obtain ⟨t, ht, rfl⟩ := List.mem_map.1 hc
      exact h1 t ht
    · obtain ⟨-, t, ht, hn⟩ := hr p hp
      exact List.mem_map.2 ⟨t, ht, (h1 t ht).resolve_left hn⟩
  have hlast : ∀ p, p < s.size → lastB (colOf ts p) = s.data.toList.getD p 0 := fun p hp => lastB_char (hcol p hp).1 (.inr (hcol p hp).2)
  have hall : (List.range (ts.getD 0 ByteArray.empty).size).all (fun k => oneB (colOf ts k)) = true := List.all_eq_true.2 fun p hp => by
    rw [hz _ hm] at hp
    have hp := List.mem_range.1 hp
    rw [oneB_iff, hlast p hp]
    exact (hcol p hp).1
  unfold ovO
  rw [if_neg h0, if_pos hsz, if_pos hall, hz _ hm]
  congr 1
  refine ba_ext (by rw [bs_size, List.length_map, List.length_range]) fun p hp => ?_
  rw [bs_size, List.length_map, List.length_range] at hp
  rw [bs_list, List.getD, List.getElem?_map, List.getElem?_range hp]
  exact hlast p hp
theorem rsF_one (l : List (Int × ByteArray)) (Z : Int) (hZ : ∀ z : Int, ov1 (ofL l z.toNat) ≠ [] → z.toNat = Z.toNat) : ∀ ks : List Int, (∀ k ∈ ks, 0 ≤ k) → ks.Nodup → 0 ≤ Z → (rsF l ks).length ≤ 1 ∧ (Z ∉ ks → rsF l ks = []) ∧ (Z ∈ ks → ov1 (ofL l Z.toNat) ≠ [] → rsF l ks ≠ [])
  | [], _, _, _ => ⟨Nat.zero_le _, fun _ => rfl, fun h => (by cases h)⟩
  | k :: ks, hp, hn, h0 => by
    obtain ⟨i1, i2, i3⟩ := rsF_one l Z hZ ks (fun x hx => hp x (List.mem_cons_of_mem _ hx)) (List.nodup_cons.1 hn).2 h0
    have e : rsF l (k :: ks) = ov1 (ofL l k.toNat) ++ rsF l ks := by unfold rsF; rw [List.flatMap_cons]
    have hk := hp k List.mem_cons_self
    have hl := ov1_len (ofL l k.toNat)
    rw [e]
    by_cases hkz : k = Z
    · subst hkz
      have h5 := i2 (List.nodup_cons.1 hn).1
      rw [h5, List.append_nil]
      exact ⟨hl, fun h => absurd List.mem_cons_self h, fun _ h => h⟩
    · have h5 : ov1 (ofL l k.toNat) = [] := Classical.byContradiction fun h => by
        have := hZ k h
        omega
      rw [h5, List.nil_append]
      exact ⟨i1, fun h => i2 (fun h' => h (List.mem_cons_of_mem _ h')), fun h => i3 ((List.mem_cons.1 h).resolve_left (fun e => hkz e.symm))⟩
theorem lenS_facts (l : List (Int × ByteArray)) : (lenS l).Nodup ∧ (∀ k ∈ lenS l, 0 ≤ k) ∧ ∀ t ∈ l.map Prod.snd, ((t.size : Nat) : Int) ∈ lenS l := by
  have hp : (lenS l).Perm (lens l) := List.mergeSort_perm _ _
  have hm : ∀ z, z ∈ lenS l ↔ z ∈ l.map (fun x => ((x.2.size : Nat) : Int)) := fun z => by rw [hp.mem_iff]; exact dd_mem _ _
  refine ⟨hp.nodup_iff.2 (dd_nodup _), fun k hk => ?_, fun t ht => ?_⟩
  · obtain ⟨x, -, rfl⟩ := List.mem_map.1 ((hm k).1 hk)
    omega
  · obtain ⟨x, hx, rfl⟩ := List.mem_map.1 ht
    exact (hm _).2 (List.mem_map.2 ⟨x, hx, rfl⟩)
/-- A line of which all that has its length is its own, and shows it whole, is restored. -/
theorem Story.restored {ts : List ByteArray} {H : List (List (Option (List UInt8)))} (S : Story ts H) {i : Nat} (hi : i < ts.length) (hw : whl ts H i = [])
    (hA : ∀ t ∈ ((dsk H).os (i + 1)).map Prod.snd, t.size = (ts.getD i ByteArray.empty).size → Bl (ts.getD i ByteArray.empty).data.toList t.data.toList)
    (hB : ∀ p, p < (ts.getD i ByteArray.empty).size → ∃ t ∈ ((dsk H).os (i + 1)).map Prod.snd, t.size = (ts.getD i ByteArray.empty).size ∧ t.data.toList.getD p 0 ≠ 63) :
    ∃ f ∈ (coB (H.map cpO)).1, f.1 = (i : Int) + 1 ∧ f.2.2.2 = true := by
  have hL := S.ln i hi
  obtain ⟨s, hs⟩ : ∃ s, ts.getD i ByteArray.empty = s := ⟨_, rfl⟩
  rw [hs] at hA hB hL
  have hpos := hL.pos
  rw [ba_len] at hpos
  obtain ⟨t0, ht0, hz0, -⟩ := hB 0 hpos
  obtain ⟨x, hx, hb, hn, -⟩ := ((story_inv H).os (i + 1) t0).1 ht0
  have hle := (story_inv H).le x hx
  have hrs : (dsk H).rs (i + 1) = [] := List.eq_nil_iff_forall_not_mem.2 fun t ht => by
    obtain ⟨j, hj, e, -, h⟩ := (S.rs (i + 1) t).1 ht
    obtain rfl : i = j := by omega
    exact whl_ne.2 h hw
  have hmem : ∀ t, t ∈ (ofL ((dsk H).os (i + 1)) s.size).map Prod.snd ↔ t ∈ ((dsk H).os (i + 1)).map Prod.snd ∧ t.size = s.size := ofL_txt _ _
  have hov : ovO ((ofL ((dsk H).os (i + 1)) s.size).map Prod.snd) = some s := by
    refine ov_of (List.ne_nil_of_mem ((hmem t0).2 ⟨ht0, hz0⟩)) (fun t ht => ((hmem t).1 ht).2) (fun t ht => hA t ((hmem t).1 ht).1 ((hmem t).1 ht).2) fun p hp => ⟨hL.no63 _ (getD_in (by rw [ba_len]; exact hp)), ?_⟩
    obtain ⟨t, h1, h2, h3⟩ := hB p hp
    exact ⟨t, (hmem t).2 ⟨h1, h2⟩, h3⟩
  have h1 : ov1 (ofL ((dsk H).os (i + 1)) s.size) ≠ [] := by
    obtain ⟨L, hL'⟩ : ∃ L, ofL ((dsk H).os (i + 1)) s.size = L := ⟨_, rfl⟩
    rw [hL'] at hov ⊢
    unfold Go.Proofs.YtmfhpddeclggfaaGreatDoor.ov1
    rw [hov, if_pos ⟨rfl, hL.ok⟩]
    exact List.cons_ne_nil _ _
  obtain ⟨n1, n2, n3⟩ := lenS_facts ((dsk H).os (i + 1))
  obtain ⟨q1, -, q3⟩ := rsF_one ((dsk H).os (i + 1)) (s.size : Int) (fun z hz => by
    obtain ⟨f, hf⟩ := List.exists_mem_of_ne_nil _ hz
    obtain ⟨j, -, hj, -, -, -, e⟩ := S.ov1T (i + 1) z.toNat f hf
    obtain rfl : i = j := by omega
    rw [hs] at e
    rw [e]
    rfl) (lenS ((dsk H).os (i + 1))) n2 n1 (by omega)
  have h5 := q3 (by rw [← hz0]; exact n3 t0 ht0) h1
  have hf : fdV (dsk H) (i + 1) = rsF ((dsk H).os (i + 1)) (lenS ((dsk H).os (i + 1))) := by
    unfold fdV rsD
    rw [if_pos hrs, if_neg (by omega)]
  obtain ⟨f, hff⟩ := List.exists_mem_of_ne_nil _ h5
  rw [← hf] at hff
  obtain ⟨j, hj⟩ := (S.fd (i + 1)).2 f hff
  have := hj.n
  obtain rfl : i = j := by omega
  have e0 : coB (H.map cpO) = coD (dsk H) (dsk H).last := rfl
  rw [e0]
  obtain ⟨-, h2⟩ := coD_mem (fun n => (S.fd n).1) (dsk H).last
  exact ⟨f, (h2 f).2 ⟨i + 1, by omega, by omega, hff⟩, hj.num, hj.none hw⟩
end Go.Proofs.YtmfhpddeclggfaaGreatDoor
