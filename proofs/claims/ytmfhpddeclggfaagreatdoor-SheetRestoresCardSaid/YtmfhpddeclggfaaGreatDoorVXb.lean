import Derived.Test.YtmfhpddeclggfaaGreatDoorVXa
namespace Go.Proofs.YtmfhpddeclggfaaGreatDoor
open Go Go.RowKit
/-! The plain side of what is restored. -/
theorem wb_128 : ∀ c : UInt8, wb c.toNat = true → c < 128 := by
  have h : ∀ c : Fin 256, wb c.val = true → c.val < 128 := by decide +kernel
  intro c hc
  exact UInt8.lt_iff_toNat_lt.2 (h ⟨c.toNat, c.toNat_lt⟩ hc)
theorem itoa_128 (n : Int) : ∀ c ∈ Lib.itoa n, c < 128 := fun c hc => by
  have k : ∀ u, ∀ c ∈ Lib.decDigits u, c < 128 := fun u c hc => by
    have := (decDigits_byte u c hc).2
    rw [UInt8.lt_iff_toNat_lt]
    exact Nat.lt_of_le_of_lt this (by decide)
  unfold Lib.itoa at hc
  split at hc
  · rcases List.mem_cons.1 hc with rfl | h
    · decide
    · exact k _ c h
  · exact k _ c hc
theorem line_asc {n : Int} {ws : List ByteArray} (h : lineErr n ws = 0) : ∀ c ∈ lineT n ws, c < 128 := by
  obtain ⟨-, -, -, hw⟩ := lineErr_ok h
  intro c hc
  simp only [lineT, headL, wordsL, List.mem_append, List.mem_flatMap, List.mem_cons, List.not_mem_nil, or_false] at hc
  rcases hc with ((((((rfl | hc) | rfl) | hc) | ⟨s, hs, rfl | hc⟩) | rfl) | hc)
  · decide
  · exact itoa_128 _ c hc
  · decide
  · exact itoa_128 _ c hc
  · decide
  · have h5 := List.all_eq_true.1 hw s hs
    unfold wordL at h5
    rw [Bool.and_eq_true] at h5
    exact wb_128 c (List.all_eq_true.1 h5.2 c hc)
  · decide
  · have h6 : c ∈ Lib.itoa (10000 + chk (headL n ws) : Nat) := by
      have := List.mem_of_mem_drop hc
      unfold Lib.itoa
      split
      · omega
      · rw [Int.toNat_natCast]; exact this
    exact itoa_128 _ c h6
theorem LnS.asc {s : ByteArray} {n : Int} (h : LnS s n) : ∀ c ∈ s.data.toList, c < 128 := fun c hc => by
  obtain ⟨h1, h2⟩ := read_ok h.ok
  rw [← h2, bs_list] at hc
  exact line_asc h1 c hc
/-- No two neighbours that are both beyond ASCII. -/
def OneL (l : List UInt8) : Prop := ∀ p, p + 1 < l.length → l.getD p 0 < 128 ∨ l.getD (p + 1) 0 < 128
theorem OneL.asc {l : List UInt8} (h : ∀ c ∈ l, c < 128) : OneL l := fun _ hp => .inl (h _ (getD_in (by omega)))
theorem OneL.one {l : List UInt8} (h : OneL l) : OneB (bs l) := .of fun p hp => by
  rw [bs_list]
  refine h p ?_
  rw [← ba_len, bs_list] at hp
  exact hp
theorem blot_asc : ∀ (pl : List Nat) {l : List UInt8}, (∀ c ∈ l, c < 128) → ∀ c ∈ blotL l pl, c < 128
  | [], _, h => h
  | p :: pl, l, h => blot_asc pl (l := l.set (p % l.length) 63) fun c hc => by
    rcases List.mem_or_eq_of_mem_set hc with h1 | rfl
    · exact h c h1
    · decide
theorem swp_asc {l : List UInt8} {k : Nat} (hk : k + 1 < l.length) (h : ∀ c ∈ l, c < 128) : ∀ c ∈ swp l k, c < 128 := fun c hc => by
  unfold swp at hc
  rcases List.mem_or_eq_of_mem_set hc with h1 | rfl
  · rcases List.mem_or_eq_of_mem_set h1 with h2 | rfl
    · exact h c h2
    · exact h _ (getD_in hk)
  · exact h _ (getD_in (by omega))
theorem fat_one {s : List UInt8} (hs : ∀ c ∈ s, c < 128) (f : Ft) {c : List UInt8} (hc : fatC s f = some c) : OneB (bs c) := by
  refine OneL.one ?_
  unfold fatC at hc
  split at hc
  · cases hc
  split at hc
  · cases hc
    exact .asc fun c hc => hs c (List.mem_of_mem_take hc)
  split at hc
  · cases hc
    exact .asc (blot_asc _ hs)
  split at hc
  · cases hc
    exact .asc fun c hc => blot_asc _ hs c (List.mem_of_mem_take hc)
  split at hc
  · cases hc
    intro p hp
    rw [List.length_set] at hp
    by_cases e : f.pos % s.length = p
    · right
      rw [List.getD, List.getElem?_set_ne (by omega)]
      exact hs _ (getD_in hp)
    · left
      rw [List.getD, List.getElem?_set_ne e]
      exact hs _ (getD_in (by omega))
  split at hc
  · cases hc
    split
    · rename_i h
      exact .asc (swp_asc h hs)
    · exact .asc hs
  · cases hc
    exact .asc hs
theorem blB_iff {c s : ByteArray} : blB c s = true ↔ c.size = s.size ∧ Bl s.data.toList c.data.toList := by
  unfold blB
  rw [Bool.and_eq_true, decide_eq_true_eq, decide_eq_true_eq]
  constructor
  · rintro ⟨h1, h2⟩
    exact ⟨h1, ⟨by rw [ba_len, ba_len]; omega, fun p hp => h2 p (by rw [ba_len] at hp; exact hp)⟩⟩
  · rintro ⟨h1, h2⟩
    exact ⟨h1, fun p hp => h2.at' p (by rw [ba_len]; exact hp)⟩
/-! Sums. -/
def sumN (f : Nat → Nat) : Nat → Nat
  | 0 => 0
  | k + 1 => sumN f k + f k
theorem sumN_le {a m : Nat → Nat} : ∀ K, (∀ k, k < K → m k ≤ a k) → sumN m K ≤ sumN a K
  | 0, _ => Nat.le_refl _
  | K + 1, h => Nat.add_le_add (sumN_le K fun k hk => h k (Nat.lt_succ_of_lt hk)) (h K (Nat.lt_succ_self K))
theorem sumN_eq {a m : Nat → Nat} : ∀ K, (∀ k, k < K → m k ≤ a k) → sumN a K = sumN m K → ∀ k, k < K → a k = m k
  | 0, _, _, k, hk => absurd hk (Nat.not_lt_zero _)
  | K + 1, h, e, k, hk => by
    have h1 := sumN_le K fun k hk => h k (Nat.lt_succ_of_lt hk)
    have h2 := h K (Nat.lt_succ_self K)
    have e1 : sumN a (K + 1) = sumN a K + a K := rfl
    have e2 : sumN m (K + 1) = sumN m K + m K := rfl
    rw [e1, e2] at e
    rcases Nat.lt_succ_iff_lt_or_eq.1 hk with h3 | rfl
    · exact sumN_eq K (fun k hk => h k (Nat.lt_succ_of_lt hk)) (by omega) k h3
    · omega
theorem two_len {α : Type} [DecidableEq α] {l : List α} {x y : α} (hx : x ∈ l) (hy : y ∈ l) (h : x ≠ y) : 2 ≤ l.length := by
  match l, hx, hy with
  | [a], hx, hy => exact absurd ((List.mem_singleton.1 hx).trans (List.mem_singleton.1 hy).symm) h
  | a :: b :: l, _, _ => simp
/-! What is restored. -/
def qP (s : ByteArray) (n : Int) (p : ByteArray) : Bool := decide (spk p.data.toList = some n) && decide (p.size = s.size)
theorem qP_iff {s : ByteArray} {n : Int} {p : ByteArray} : qP s n p = true ↔ spk p.data.toList = some n ∧ p.size = s.size := by
  unfold qP
  rw [Bool.and_eq_true, decide_eq_true_eq, decide_eq_true_eq]
/-- A line's own part of a copy: not whole, as long as the line, with nothing but blots. -/
def mB (s : ByteArray) : Option (Option (List UInt8)) → Bool
  | some (some c) => !decide (c = s.data.toList) && blB (bs c) s
  | _ => false
def mN (s : ByteArray) (H : List (List (Option (List UInt8)))) (i k : Nat) : Nat := if mB s ((H.getD k [])[i]?) = true then 1 else 0
def aN (s : ByteArray) (H : List (List (Option (List UInt8)))) (i k : Nat) : Nat := ((partsN (cpO (H.getD k []))).filter (qP s ((i : Int) + 1))).length
theorem mB_some {s : ByteArray} {o : Option (Option (List UInt8))} (h : mB s o = true) : ∃ c, o = some (some c) ∧ c ≠ s.data.toList ∧ blB (bs c) s = true := by
  match o, h with
  | some (some c), h =>
    have h' : (!decide (c = s.data.toList) && blB (bs c) s) = true := h
    rw [Bool.and_eq_true, Bool.not_eq_true', decide_eq_false_iff_not] at h'
    exact ⟨c, rfl, h'.1, h'.2⟩
/-- A line's own part, where it speaks of the line, is a scrap of the copy. -/
theorem own_sc {n : Int} {s : ByteArray} (hs : LnS s n) {h : List (Option (List UInt8))} {i : Nat} {c : List UInt8} (e : h[i]? = some (some c)) (hne : c ≠ s.data.toList) (hb : blB (bs c) s = true) (hk : spk c = some n) :
    (⟨n, bs c, false⟩ : Sc) ∈ scL (cpO h) := by
  obtain ⟨hz, hbl⟩ := blB_iff.1 hb
  rw [bs_list] at hbl
  have h10 : ∀ b ∈ c, b ≠ 10 := fun b hb' => by
    rcases hbl.mem hb' with rfl | h1
    · decide
    · exact hs.no10 b h1
  have hl : c.length ≠ 0 := by
    have := hs.pos
    rw [ba_len] at this
    rw [← ba_len, bs_list] at hz
    omega
  have hr : readErr (bs c) ≠ 0 := hbl.no hs hne
  refine (scL_cpO h _).2 ⟨i, c, e, ?_⟩
  have h1 : sc1 (bs c) = some ⟨n, bs c, false⟩ := by
    unfold sc1
    rw [bs_list, hk]
    show some (Sc.mk n (bs c) (readErr (bs c) == 0)) = _
    rw [show (readErr (bs c) == 0) = false from by rw [beq_eq_false_iff_ne]; exact hr]
  unfold scL
  rw [partsN_plain h10, if_neg hl]
  exact List.mem_filterMap.2 ⟨bs c, List.mem_singleton.2 rfl, h1⟩
theorem rest_of {ts : List ByteArray} {H : List (List (Option (List UInt8)))} (S : Story ts H) {i : Nat} (hi : i < ts.length) {s : ByteArray} (hs : ts.getD i ByteArray.empty = s)
    (hg : ∀ k, k < H.length → ∀ c, (H.getD k [])[i]? = some (some c) → c ≠ s.data.toList ∧ (blB (bs c) s = true → spk c = some ((i : Int) + 1)))
    (hr : ∀ p, p < s.size → ∃ k, k < H.length ∧ ∃ c, (H.getD k [])[i]? = some (some c) ∧ blB (bs c) s = true ∧ c.getD p 0 ≠ 63)
    (he : sumN (aN s H i) H.length = sumN (mN s H i) H.length) :
    ∃ f ∈ (coB (H.map cpO)).1, f.1 = (i : Int) + 1 ∧ f.2.2.2 = true := by
  have hL := S.ln i hi
  rw [hs] at hL
  have hin : ∀ k c, (H.getD k [])[i]? = some (some c) → k < H.length := fun k c e => by
    refine Classical.byContradiction fun h => ?_
    rw [List.getD, show H[k]? = none from List.getElem?_eq_none (by omega)] at e
    cases e
  have hgm : ∀ k, k < H.length → H.getD k [] ∈ H := fun k hk => by rw [List.getD, List.getElem?_eq_getElem hk]; exact List.getElem_mem _
  have hown : ∀ k c, (H.getD k [])[i]? = some (some c) → c ≠ s.data.toList → blB (bs c) s = true → (⟨(i : Int) + 1, bs c, false⟩ : Sc) ∈ scL (cpO (H.getD k [])) := fun k c e h1 h2 =>
    own_sc hL e h1 h2 ((hg k (hin k c e) c e).2 h2)
  have hpart : ∀ k c, (H.getD k [])[i]? = some (some c) → c ≠ s.data.toList → blB (bs c) s = true → bs c ∈ (partsN (cpO (H.getD k []))).filter (qP s ((i : Int) + 1)) := fun k c e h1 h2 => by
    obtain ⟨h3, h4, -⟩ := scL_in (hown k c e h1 h2)
    exact List.mem_filter.2 ⟨h3, qP_iff.2 ⟨h4, (blB_iff.1 h2).1⟩⟩
  have hle : ∀ k, k < H.length → mN s H i k ≤ aN s H i k := fun k _ => by
    unfold mN
    split
    · rename_i hm
      obtain ⟨c, e, h1, h2⟩ := mB_some hm
      exact List.length_pos_of_mem (hpart k c e h1 h2)
    · exact Nat.zero_le _
  have heq := sumN_eq H.length hle he
  refine S.restored hi ?_ ?_ ?_
  · refine Classical.byContradiction fun hw => ?_
    obtain ⟨h, hh, e⟩ := whl_ne.1 hw
    obtain ⟨k, hk, rfl⟩ := List.getElem_of_mem hh
    have e' : (H.getD k [])[i]? = some (some (ts.getD i ByteArray.empty).data.toList) := by rw [List.getD, List.getElem?_eq_getElem hk]; exact e
    exact (hg k hk _ e').1 (by rw [hs])
  · intro t ht hz
    rw [hs] at hz ⊢
    obtain ⟨x, ⟨h, hh, hx⟩, hb, hn, rfl⟩ := ((story_inv H).os (i + 1) t).1 ht
    obtain ⟨k, hk, rfl⟩ := List.getElem_of_mem hh
    have ek : H.getD k [] = H[k] := by rw [List.getD, List.getElem?_eq_getElem hk]; rfl
    obtain ⟨h3, h4, -⟩ := scL_in hx
    have hxn : x.n = (i : Int) + 1 := by omega
    have hmem : x.t ∈ (partsN (cpO (H.getD k []))).filter (qP s ((i : Int) + 1)) := by
      rw [ek]
      exact List.mem_filter.2 ⟨h3, qP_iff.2 ⟨by rw [h4, hxn], hz⟩⟩
    have h1 := heq k hk
    have hpos : 0 < aN s H i k := List.length_pos_of_mem hmem
    unfold mN at h1
    split at h1
    · rename_i hm
      obtain ⟨c, e, h5, h6⟩ := mB_some hm
      have hc := hpart k c e h5 h6
      by_cases hxc : x.t = bs c
      · rw [hxc]
        exact (blB_iff.1 h6).2
      · have := two_len hmem hc hxc
        unfold aN at h1
        omega
    · omega
  · intro p hp
    rw [hs] at hp ⊢
    obtain ⟨k, hk, c, e, h1, h2⟩ := hr p hp
    have hne := (hg k hk c e).1
    refine ⟨bs c, ((story_inv H).os (i + 1) (bs c)).2 ⟨_, ⟨H.getD k [], hgm k hk, hown k c e hne h1⟩, rfl, by show ((i : Int) + 1).toNat = _; omega, rfl⟩, (blB_iff.1 h1).1, ?_⟩
    rw [bs_list]
    exact h2
end Go.Proofs.YtmfhpddeclggfaaGreatDoor
