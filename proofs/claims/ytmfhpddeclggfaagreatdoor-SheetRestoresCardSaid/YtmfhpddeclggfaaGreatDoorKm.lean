import Derived.Test.YtmfhpddeclggfaaGreatDoorKb
import Derived.Lib.SplitLaws
namespace Go.Proofs.YtmfhpddeclggfaaGreatDoor
open Go Go.RowKit
/-! Plain facts about the texts of lines. -/
/-- No blank among the bytes. -/
def NoSp (l : List UInt8) : Prop := ∀ c ∈ l, c ≠ 32
theorem NoSp.app {a b : List UInt8} (h : NoSp a) (k : NoSp b) : NoSp (a ++ b) := fun c hc => (List.mem_append.1 hc).elim (h c) (k c)
theorem decDigits_inj {a b : Nat} (ha : a < 18446744073709551616) (hb : b < 18446744073709551616) (h : Lib.decDigits a = Lib.decDigits b) : a = b := by
  have h1 := parseMag_decDigits a ha
  have h2 := parseMag_decDigits b hb
  rw [h, h2] at h1
  cases h1
  rfl
theorem decDigits_noSp (u : Nat) : NoSp (Lib.decDigits u) := fun c hc e => by
  have := decDigits_byte u c hc
  rw [e] at this
  exact absurd this.1 (by decide)
theorem itoa_noSp (n : Int) : NoSp (Lib.itoa n) := by
  unfold Lib.itoa
  split
  · intro c hc
    rcases List.mem_cons.1 hc with rfl | h
    · decide
    · exact decDigits_noSp _ c h
  · exact decDigits_noSp _
theorem four_noSp (n : Nat) : NoSp (four n) := fun c hc => decDigits_noSp _ c (List.mem_of_mem_drop hc)
/-- A number of four digits, without its first digit. -/
theorem dec5 (n : Nat) (h : n < 10000) : ∃ l, Lib.decDigits (10000 + n) = 49 :: l := by
  have h1 : ∀ u, ¬ u < 10 → Lib.decDigits u = Lib.decDigits (u / 10) ++ [UInt8.ofNat (48 + u % 10)] := fun u hu => by rw [Lib.decDigits, dif_neg hu]
  rw [h1 _ (by omega), h1 _ (by omega), h1 _ (by omega), h1 _ (by omega)]
  have e : (10000 + n) / 10 / 10 / 10 / 10 = 1 := by omega
  rw [e, show Lib.decDigits 1 = [49] from by rw [Lib.decDigits, dif_pos (by decide)]; rfl]
  exact ⟨_, rfl⟩
theorem four_inj {a b : Nat} (ha : a < 10000) (hb : b < 10000) (h : four a = four b) : a = b := by
  obtain ⟨x, hx⟩ := dec5 a ha
  obtain ⟨y, hy⟩ := dec5 b hb
  unfold four at h
  rw [hx, hy] at h
  have h2 : x = y := h
  have := decDigits_inj (a := 10000 + a) (b := 10000 + b) (by omega) (by omega) (by rw [hx, hy, h2])
  omega
/-! The check. -/
abbrev ck (c : Nat) (l : List UInt8) : Nat := l.foldl (fun c b => (c * 17 + b.toNat) % 9973) c
theorem ck_inj : ∀ (l : List UInt8) (c d : Nat), c < 9973 → d < 9973 → ck c l = ck d l → c = d
  | [], _, _, _, _, h => h
  | b :: l, c, d, hc, hd, h => by
    have h1 : (c * 17 + b.toNat) % 9973 = (d * 17 + b.toNat) % 9973 := ck_inj l _ _ (Nat.mod_lt _ (by decide)) (Nat.mod_lt _ (by decide)) h
    omega
theorem u8_eq {a b : UInt8} (h : a.toNat = b.toNat) : a = b := UInt8.toNat_inj.1 h
theorem chk_one (a r : List UInt8) (x y : UInt8) (h : chk (a ++ x :: r) = chk (a ++ y :: r)) : x = y := by
  unfold chk at h
  rw [List.foldl_append, List.foldl_append] at h
  have hc : ck 0 a < 9973 := chk_lt a
  have h1 := ck_inj r _ _ (Nat.mod_lt _ (by decide)) (Nat.mod_lt _ (by decide)) (show ck ((ck 0 a * 17 + x.toNat) % 9973) r = ck ((ck 0 a * 17 + y.toNat) % 9973) r from h)
  have hx := x.toNat_lt
  have hy := y.toNat_lt
  exact u8_eq (by omega)
theorem chk_two (a r : List UInt8) (x y : UInt8) (h : chk (a ++ x :: y :: r) = chk (a ++ y :: x :: r)) : x = y := by
  unfold chk at h
  rw [List.foldl_append, List.foldl_append] at h
  have hc : ck 0 a < 9973 := chk_lt a
  have h1 := ck_inj r _ _ (Nat.mod_lt _ (by decide)) (Nat.mod_lt _ (by decide)) (show ck (((ck 0 a * 17 + x.toNat) % 9973 * 17 + y.toNat) % 9973) r = ck (((ck 0 a * 17 + y.toNat) % 9973 * 17 + x.toNat) % 9973) r from h)
  have hx := x.toNat_lt
  have hy := y.toNat_lt
  exact u8_eq (by omega)
/-- What a line's text is: a head, a blank, four digits of its check. -/
def Lined (L : List UInt8) : Prop := ∃ H, L = H ++ 32 :: four (chk H)
theorem Lined.len {L : List UInt8} (h : Lined L) : 5 ≤ L.length := by
  obtain ⟨H, rfl⟩ := h
  have := four_len (chk H) (by have := chk_lt H; omega)
  simp; omega
/-- Two texts of one length of which each is lined: heads as long as each other. -/
theorem lined_parts {L M : List UInt8} (hL : Lined L) (hM : Lined M) (hl : L.length = M.length) : ∃ H K, L = H ++ 32 :: four (chk H) ∧ M = K ++ 32 :: four (chk K) ∧ H.length = K.length := by
  obtain ⟨H, e⟩ := hL
  obtain ⟨K, f⟩ := hM
  refine ⟨H, K, e, f, ?_⟩
  have h1 := four_len (chk H) (by have := chk_lt H; omega)
  have h2 := four_len (chk K) (by have := chk_lt K; omega)
  rw [e, f] at hl
  simp at hl
  omega
theorem lined_one {a r : List UInt8} {x y : UInt8} (hL : Lined (a ++ x :: r)) (hM : Lined (a ++ y :: r)) : x = y := by
  obtain ⟨H, K, e, f, hl⟩ := lined_parts hL hM (by simp)
  have hc := chk_lt H
  have hk := chk_lt K
  rcases List.append_eq_append_iff.1 e with ⟨s, h1, h2⟩ | ⟨s, h1, h2⟩
  · cases s with
    | nil =>
      obtain ⟨rfl, rfl⟩ : x = 32 ∧ r = four (chk H) := by simpa using h2
      have hK : K = a := by
        have : (a ++ y :: four (chk H)).take K.length = (K ++ 32 :: four (chk K)).take K.length := by rw [f]
        rw [List.take_left' rfl, ← hl, show H.length = a.length from by rw [h1]; simp, List.take_left' rfl] at this
        exact this.symm
      rw [hK] at f
      have := List.append_cancel_left f
      simp only [List.cons.injEq] at this
      exact this.1.symm
    | cons z s =>
      obtain ⟨rfl, rfl⟩ : x = z ∧ r = s ++ 32 :: four (chk H) := by simpa using h2
      have hK : K = a ++ y :: s ∧ (32 :: four (chk H) : List UInt8) = 32 :: four (chk K) := by
        have e2 : (a ++ y :: s) ++ 32 :: four (chk H) = K ++ 32 :: four (chk K) := by rw [← f]; simp
        exact (List.append_inj e2 (by rw [← hl, h1]; simp)).imp (fun h => h.symm) id
      obtain ⟨rfl, h4⟩ := hK
      have h5 := four_inj (by omega) (by omega) (List.cons.inj h4).2
      rw [h1] at h5
      exact chk_one _ _ _ _ h5
  · have hK : K = H ∧ (32 :: four (chk K) : List UInt8) = s ++ y :: r := by
      have e2 : H ++ (s ++ y :: r) = K ++ 32 :: four (chk K) := by rw [← f, h1]; simp
      exact (List.append_inj e2 hl).imp (fun h => h.symm) (fun h => h.symm)
    obtain ⟨rfl, h4⟩ := hK
    rw [h2] at h4
    have := List.append_cancel_left h4
    exact (List.cons.inj this).1
theorem lined_two {a r : List UInt8} {x y : UInt8} (hL : Lined (a ++ x :: y :: r)) (hM : Lined (a ++ y :: x :: r)) : x = y := by
  obtain ⟨H, K, e, f, hl⟩ := lined_parts hL hM (by simp)
  have hc := chk_lt H
  have hk := chk_lt K
  rcases List.append_eq_append_iff.1 e with ⟨s, h1, h2⟩ | ⟨s, h1, h2⟩
  · match s, h1, h2 with
    | [], h1, h2 =>
      obtain ⟨rfl, h3⟩ : x = 32 ∧ y :: r = four (chk H) := by simpa using h2
      have e2 : a ++ (y :: 32 :: r) = K ++ 32 :: four (chk K) := f
      have := (List.append_inj e2 (by rw [← hl, h1]; simp)).2
      exact ((List.cons.inj this).1).symm
    | [z], h1, h2 =>
      obtain ⟨rfl, rfl, h3⟩ : x = z ∧ y = 32 ∧ r = four (chk H) := by simpa using h2
      have e2 : (a ++ [32]) ++ x :: r = K ++ 32 :: four (chk K) := by rw [← f]; simp
      have := (List.append_inj e2 (by rw [← hl, h1]; simp)).2
      exact (List.cons.inj this).1
    | z :: z2 :: s, h1, h2 =>
      obtain ⟨rfl, rfl, rfl⟩ : x = z ∧ y = z2 ∧ r = s ++ 32 :: four (chk H) := by simpa using h2
      have e2 : (a ++ y :: x :: s) ++ 32 :: four (chk H) = K ++ 32 :: four (chk K) := by rw [← f]; simp
      have h6 := List.append_inj e2 (by rw [← hl, h1]; simp)
      have h5 := four_inj (by omega) (by omega) (List.cons.inj h6.2).2
      rw [h1, ← h6.1] at h5
      exact chk_two _ _ _ _ h5
  · have e2 : H ++ (s ++ y :: x :: r) = K ++ 32 :: four (chk K) := by rw [← f, h1]; simp
    have h6 := List.append_inj e2 hl
    rw [← h6.1, h2] at h6
    have := List.append_cancel_left h6.2
    exact ((List.cons.inj this).1).symm
/-! Splitting a line's text. -/
theorem index_none : ∀ l : List UInt8, NoSp l → Lib.index l [32] = -1
  | [], _ => rfl
  | b :: l, h => by
    have hb : b ≠ 32 := h b List.mem_cons_self
    have ih := index_none l (fun c hc => h c (List.mem_cons_of_mem _ hc))
    rw [Lib.index, ih]
    simp [List.isPrefixOf, Ne.symm hb]
theorem index_at : ∀ (p x : List UInt8), NoSp p → Lib.index (p ++ 32 :: x) [32] = p.length
  | [], x, _ => by simp [Lib.index, List.isPrefixOf]
  | b :: p, x, h => by
    have hb : b ≠ 32 := h b List.mem_cons_self
    have ih := index_at p x (fun c hc => h c (List.mem_cons_of_mem _ hc))
    have h1 : ([32] : List UInt8).isPrefixOf (b :: (p ++ 32 :: x)) = false := by simp [List.isPrefixOf, Ne.symm hb]
    have h2 : ((p.length : Int) == -1) = false := by rw [beq_eq_false_iff_ne]; omega
    rw [List.cons_append, Lib.index, ih, h1, h2]
    simp
def joinS (p : List UInt8) (ps : List (List UInt8)) : List UInt8 := p ++ ps.flatMap (32 :: ·)
theorem splitK_join : ∀ (ps : List (List UInt8)) (p : List UInt8) (K : Nat), ps.length ≤ K → NoSp p → (∀ q ∈ ps, NoSp q) → Lib.splitK [32] 0 K (joinS p ps) = p :: ps
  | [], p, K, _, hp, _ => by
    have e : joinS p [] = p := by simp [joinS]
    rw [e]
    cases K with
    | zero => rfl
    | succ K => rw [Lib.splitK, index_none p hp]; rfl
  | q :: qs, p, 0, hK, _, _ => by simp at hK
  | q :: qs, p, K + 1, hK, hp, hq => by
    have e : joinS p (q :: qs) = p ++ 32 :: joinS q qs := by simp [joinS]
    have ih := splitK_join qs q K (by simpa using hK) (hq q List.mem_cons_self) (fun x hx => hq x (List.mem_cons_of_mem _ hx))
    rw [e, Lib.splitK, index_at p _ hp, if_neg (by intro h; have := eq_of_beq h; omega)]
    have h1 : (p ++ 32 :: joinS q qs).take ((p.length : Int).toNat + 0) = p := by simp
    have h2 : (p ++ 32 :: joinS q qs).drop ((p.length : Int).toNat + [(32 : UInt8)].length) = joinS q qs := by
      rw [show (p.length : Int).toNat + [(32 : UInt8)].length = p.length + 1 from by simp, List.drop_append]
      simp
    rw [h1, h2, ih]
theorem headL_join (n : Int) (ws : List ByteArray) : headL n ws = joinS (64 :: Lib.itoa n) (Lib.itoa ws.length :: ws.map (·.data.toList)) := by
  simp [headL, joinS, wordsL, List.flatMap_map]
theorem lineT_lined (n : Int) (ws : List ByteArray) : Lined (lineT n ws) := ⟨headL n ws, by simp [lineT]⟩
/-! A text cut off. -/
theorem first_field {p q x y : List UInt8} (hp : NoSp p) (hq : NoSp q) (h : p ++ 32 :: x = q ++ 32 :: y) : p = q ∧ x = y := by
  rcases List.append_eq_append_iff.1 h with ⟨s, h1, h2⟩ | ⟨s, h1, h2⟩
  · cases s with
    | nil => obtain ⟨-, rfl⟩ := List.cons.inj h2; exact ⟨by simpa using h1.symm, rfl⟩
    | cons z s =>
      have : (32 : UInt8) = z := (List.cons.inj h2).1
      exact absurd this.symm (hq z (by rw [h1]; simp))
  · cases s with
    | nil => obtain ⟨-, rfl⟩ := List.cons.inj h2; exact ⟨by simpa using h1, rfl⟩
    | cons z s =>
      have : (32 : UInt8) = z := (List.cons.inj h2).1
      exact absurd this.symm (hp z (by rw [h1]; simp))
theorem fields_cut : ∀ (ps qs : List (List UInt8)) (D : List UInt8), (∀ p ∈ ps, NoSp p) → (∀ q ∈ qs, NoSp q) → ps.length = qs.length → ps.flatMap (32 :: ·) = qs.flatMap (32 :: ·) ++ D → ps ≠ [] → ∃ z, ps.getLast? = z.map (· ++ D) ∧ z = qs.getLast? ∧ NoSp D
  | [], _, _, _, _, _, _, h => absurd rfl h
  | [p], [q], D, hp, _, _, h, _ => by
    have e : p = q ++ D := by simpa using h
    refine ⟨some q, by simp [e], rfl, fun c hc => hp p List.mem_cons_self c (by rw [e]; exact List.mem_append_right _ hc)⟩
  | p :: p2 :: ps, q :: q2 :: qs, D, hp, hq, hl, h, _ => by
    have e : p ++ 32 :: (p2 ++ ps.flatMap (32 :: ·)) = q ++ 32 :: (q2 ++ qs.flatMap (32 :: ·) ++ D) := by
      simpa using h
    obtain ⟨-, e2⟩ := first_field (hp p List.mem_cons_self) (hq q List.mem_cons_self) e
    obtain ⟨z, h1, h2, h3⟩ := fields_cut (p2 :: ps) (q2 :: qs) D (fun x hx => hp x (List.mem_cons_of_mem _ hx)) (fun x hx => hq x (List.mem_cons_of_mem _ hx)) (by simpa using hl) (by simpa using e2) (by simp)
    exact ⟨z, by simpa using h1, by simpa using h2, h3⟩
  | [_], [], _, _, _, hl, _, _ => by simp at hl
  | [_], _ :: _ :: _, _, _, _, hl, _, _ => by simp at hl
  | _ :: _ :: _, [], _, _, _, hl, _, _ => by simp at hl
  | _ :: _ :: _, [_], _, _, _, hl, _, _ => by simp at hl
def WsOk (ws : List ByteArray) : Prop := ∀ s ∈ ws, NoSp s.data.toList
theorem lineT_fields (n : Int) (ws : List ByteArray) : lineT n ws = (64 :: Lib.itoa n) ++ 32 :: (Lib.itoa ws.length ++ (ws.map (·.data.toList) ++ [four (chk (headL n ws))]).flatMap (32 :: ·)) := by
  simp [lineT, headL, wordsL, List.flatMap_map]
theorem cut_line {n m : Int} {ws vs : List ByteArray} {D : List UInt8} (hw : WsOk ws) (hv : WsOk vs) (hwl : ws.length ≤ 1000) (hvl : vs.length ≤ 1000) (h : lineT n ws = lineT m vs ++ D) : D = [] := by
  have a1 : ∀ k : Int, NoSp (64 :: Lib.itoa k) := fun k c hc => by
    rcases List.mem_cons.1 hc with rfl | h
    · decide
    · exact itoa_noSp k c h
  have hF : ∀ (ws : List ByteArray) (n : Int), WsOk ws → ∀ p ∈ ws.map (·.data.toList) ++ [four (chk (headL n ws))], NoSp p := by
    intro ws n hw p hp
    rcases List.mem_append.1 hp with h | h
    · obtain ⟨s, hs, rfl⟩ := List.mem_map.1 h
      exact hw s hs
    · obtain rfl := List.mem_singleton.1 h
      exact four_noSp _
  rw [lineT_fields, lineT_fields, List.append_assoc, List.cons_append] at h
  obtain ⟨-, h2⟩ := first_field (a1 n) (a1 m) h
  obtain ⟨p0, ps, e0⟩ : ∃ p0 ps, ws.map (·.data.toList) ++ [four (chk (headL n ws))] = p0 :: ps := by
    cases hh : ws.map (·.data.toList) ++ [four (chk (headL n ws))] with
    | nil => simp at hh
    | cons p ps => exact ⟨p, ps, rfl⟩
  obtain ⟨q0, qs, f0⟩ : ∃ q0 qs, vs.map (·.data.toList) ++ [four (chk (headL m vs))] = q0 :: qs := by
    cases hh : vs.map (·.data.toList) ++ [four (chk (headL m vs))] with
    | nil => simp at hh
    | cons p ps => exact ⟨p, ps, rfl⟩
  have h3 : Lib.itoa ws.length ++ 32 :: (p0 ++ ps.flatMap (32 :: ·)) = Lib.itoa vs.length ++ 32 :: (q0 ++ qs.flatMap (32 :: ·) ++ D) := by
    rw [e0, f0] at h2
    simpa using h2
  obtain ⟨h4, h5⟩ := first_field (itoa_noSp _) (itoa_noSp _) h3
  have hlen : ws.length = vs.length := by
    have := itoa_inj (n := ws.length) (m := vs.length) (by omega) (by omega) (by omega) (by omega) h4
    omega
  obtain ⟨z, g1, g2, -⟩ := fields_cut (ws.map (·.data.toList) ++ [four (chk (headL n ws))]) (vs.map (·.data.toList) ++ [four (chk (headL m vs))]) D (hF ws n hw) (hF vs m hv) (by simp [hlen]) (by rw [e0, f0]; simpa using h5) (by simp)
  subst g2
  simp only [List.getLast?_append, List.getLast?_singleton, Option.some_or, Option.map_some, Option.some.injEq] at g1
  have l1 := four_len (chk (headL n ws)) (by have := chk_lt (headL n ws); omega)
  have l2 := four_len (chk (headL m vs)) (by have := chk_lt (headL m vs); omega)
  rw [g1, List.length_append, l2] at l1
  exact List.length_eq_zero_iff.1 (by omega)
/-! Reading what was written. -/
theorem wordL_bytes {l : List UInt8} (h : wordL l = true) : ∀ c ∈ l, 33 ≤ c.toNat ∧ c.toNat ≤ 126 := by
  intro c hc
  unfold wordL at h
  rw [Bool.and_eq_true] at h
  have := List.all_eq_true.1 h.2 c hc
  unfold wb at this
  have := of_decide_eq_true this
  omega
theorem words_wsOk {ws : List ByteArray} (h : wordsOk ws = true) : WsOk ws := fun s hs c hc e => by
  have := (wordL_bytes (List.all_eq_true.1 h s hs) c hc).1
  rw [e] at this
  exact absurd this (by decide)
theorem bs_data {s : ByteArray} : bs s.data.toList = s := rfl
theorem body_line (n : Int) (ws : List ByteArray) : (bodyOf (bs (lineT n ws))).data.toList = headL n ws ++ [32] := by
  have h4 := four_len (chk (headL n ws)) (by have := chk_lt (headL n ws); omega)
  unfold bodyOf
  rw [Lib.extract_from_zero, bs_list, bs_size]
  have : (lineT n ws).length - 4 = (headL n ws ++ [32]).length := by unfold lineT; rw [List.length_append (bs := four _), h4]; omega
  rw [this]
  unfold lineT
  exact List.take_left' rfl
theorem trimmed_line (n : Int) (ws : List ByteArray) : trimmed (bs (lineT n ws)) = bs (headL n ws) ∧ hasSp (bs (lineT n ws)) = true := by
  have h : Lib.hasSuffix (headL n ws ++ [32]) [32] = true := by
    unfold Lib.hasSuffix
    rw [List.isSuffixOf_iff_suffix]
    exact ⟨_, rfl⟩
  unfold trimmed hasSp
  rw [body_line]
  refine ⟨?_, h⟩
  unfold Lib.trimSuffix
  rw [if_pos h]
  have : (headL n ws ++ [32]).take ((headL n ws ++ [32]).length - [(32 : UInt8)].length) = headL n ws := by
    show (headL n ws ++ [32]).take ((headL n ws ++ [32]).length - 1) = headL n ws
    rw [List.length_append, show (headL n ws).length + [(32 : UInt8)].length - 1 = (headL n ws).length from by simp]
    exact List.take_left' rfl
  rw [this]
  rfl
theorem map_data_inj : ∀ {a b : List ByteArray}, a.map (·.data.toList) = b.map (·.data.toList) → a = b
  | [], [], _ => rfl
  | [], _ :: _, h => by simp at h
  | _ :: _, [], h => by simp at h
  | x :: a, y :: b, h => by
    simp only [List.map_cons, List.cons.injEq] at h
    have : x = y := ByteArray.ext (Array.ext' h.1)
    rw [this, map_data_inj h.2]
theorem parts_line (n : Int) (ws : List ByteArray) (hw : WsOk ws) (hl : ws.length ≤ 40) : partsOf (bs (headL n ws)) = bs (64 :: Lib.itoa n) :: bs (Lib.itoa ws.length) :: ws := by
  apply map_data_inj
  unfold partsOf
  rw [Lib.splitB_data]
  have hlen : ws.length + 1 ≤ (headL n ws).length := by
    have h1 : ∀ l : List ByteArray, l.length ≤ (wordsL l).length := fun l => by
      induction l with
      | nil => simp [wordsL]
      | cons s l ih => simp only [wordsL, List.flatMap_cons, List.length_append, List.length_cons] at ih ⊢; omega
    have := h1 ws
    simp only [headL, List.length_append, List.length_cons, List.length_nil]; omega
  rw [show (bs (headL n ws)).data.toList = joinS (64 :: Lib.itoa n) (Lib.itoa ws.length :: ws.map (·.data.toList)) from headL_join n ws]
  rw [show (ByteArray.mk #[32]).data.toList = [32] from rfl]
  rw [splitK_join _ _ _ (by rw [bs_size]; simp; omega)]
  · simp [bs]
  · intro c hc
    rcases List.mem_cons.1 hc with rfl | h
    · decide
    · exact itoa_noSp n c h
  · intro q hq
    rcases List.mem_cons.1 hq with rfl | h
    · exact itoa_noSp _
    · obtain ⟨s, hs, rfl⟩ := List.mem_map.1 h
      exact hw s hs
theorem mk64_at (n : Int) : mk64 (64 :: Lib.itoa n) = Lib.itoa n := by
  unfold mk64 Lib.trimPrefix Lib.hasPrefix
  simp [List.isPrefixOf]
theorem beq_self_list (s : ByteArray) : (s.toList == s.toList) = true := by simp
theorem readErr_of (s : ByteArray) (h1 : splitOk s = true) (h2 : lineErr (lineN s) (lineWs s) = 0) (h3 : again s = s) : readErr s = 0 := by
  unfold readErr sameHead
  rw [h1, h2, h3, beq_self_list, beq_self_list]
  simp
theorem read_line {n : Int} {ws : List ByteArray} (h : lineErr n ws = 0) : lineN (bs (lineT n ws)) = n ∧ lineWs (bs (lineT n ws)) = ws ∧ readErr (bs (lineT n ws)) = 0 := by
  obtain ⟨n1, n2, hl, hw⟩ := lineErr_ok h
  obtain ⟨t1, t2⟩ := trimmed_line n ws
  have hp := parts_line n ws (words_wsOk hw) hl
  have h64 : Lib.hasPrefix (64 :: Lib.itoa n) [64] = true := by simp [Lib.hasPrefix, List.isPrefixOf]
  have hrd := rdInt_itoa n (by omega) (by omega)
  have p0 : partN (bs (lineT n ws)) 0 = bs (64 :: Lib.itoa n) := by unfold partN; rw [t1, hp]; rfl
  have e1 : lineN (bs (lineT n ws)) = n := by
    unfold lineN mkN
    rw [p0, bs_list, mk64_at, hrd]; rfl
  have e2 : lineWs (bs (lineT n ws)) = ws := by unfold lineWs; rw [t1, hp]; rfl
  refine ⟨e1, e2, readErr_of _ ?_ (by rw [e1, e2]; exact h) (by unfold again; rw [e1, e2])⟩
  unfold splitOk mkOk
  rw [p0, t1, t2, hp, bs_list, mk64_at, hrd, h64]
  have h4 := (lineT_lined n ws).len
  simp [bs_size]
  exact decide_eq_true (by omega)
theorem toList_eq {s t : ByteArray} (h : (s.toList == t.toList) = true) : s = t := by
  have := eq_of_beq h
  rw [ByteArray.toList_eq, ByteArray.toList_eq] at this
  exact ByteArray.ext (Array.ext' this)
theorem read_ok {s : ByteArray} (h : readErr s = 0) : lineErr (lineN s) (lineWs s) = 0 ∧ bs (lineT (lineN s) (lineWs s)) = s := by
  unfold readErr at h
  split at h
  · exact absurd h (by decide)
  · split at h
    · exact absurd h (by decide)
    · split at h
      · exact absurd h (by decide)
      · split at h
        · rename_i h1 h2 h3 h4
          exact ⟨by simpa using h2, toList_eq h4⟩
        · exact absurd h (by decide)
/-- What is read without an error is the text of a line. -/
theorem read_iff (s : ByteArray) : readErr s = 0 ↔ ∃ n ws, lineErr n ws = 0 ∧ s = bs (lineT n ws) :=
  ⟨fun h => ⟨_, _, (read_ok h).1, (read_ok h).2.symm⟩, fun ⟨n, ws, h, e⟩ => by rw [e]; exact (read_line h).2.2⟩
theorem line_no_feed {n : Int} {ws : List ByteArray} (h : lineErr n ws = 0) : ∀ c ∈ lineT n ws, c ≠ 10 := by
  obtain ⟨n1, n2, hl, hw⟩ := lineErr_ok h
  have hd : ∀ u, ∀ c ∈ Lib.decDigits u, c ≠ 10 := fun u c hc e => by
    have := (decDigits_byte u c hc).1
    rw [e] at this
    exact absurd this (by decide)
  have hi : ∀ k : Int, ∀ c ∈ Lib.itoa k, c ≠ 10 := fun k c hc => by
    unfold Lib.itoa at hc
    split at hc
    · rcases List.mem_cons.1 hc with rfl | h
      · decide
      · exact hd _ c h
    · exact hd _ c hc
  intro c hc
  simp only [lineT, headL, wordsL, List.mem_append, List.mem_flatMap, List.mem_cons, List.not_mem_nil, or_false] at hc
  rcases hc with ((((((rfl | hc) | rfl) | hc) | ⟨s, hs, rfl | hc⟩) | rfl) | hc)
  · decide
  · exact hi _ c hc
  · decide
  · exact hi _ c hc
  · decide
  · intro e
    have := (wordL_bytes (List.all_eq_true.1 hw s hs) c hc).1
    rw [e] at this
    exact absurd this (by decide)
  · decide
  · exact hd _ c (List.mem_of_mem_drop hc)
/-! One mistake. -/
theorem lined_of {s : ByteArray} (h : readErr s = 0) : Lined s.data.toList := by
  obtain ⟨n, ws, -, rfl⟩ := (read_iff s).1 h
  exact lineT_lined n ws
theorem read_cut {s t : ByteArray} {D : List UInt8} (hs : readErr s = 0) (ht : readErr t = 0) (h : s.data.toList = t.data.toList ++ D) : D = [] := by
  obtain ⟨n, ws, h1, rfl⟩ := (read_iff s).1 hs
  obtain ⟨m, vs, h2, rfl⟩ := (read_iff t).1 ht
  obtain ⟨-, -, l1, w1⟩ := lineErr_ok h1
  obtain ⟨-, -, l2, w2⟩ := lineErr_ok h2
  exact cut_line (words_wsOk w1) (words_wsOk w2) (by omega) (by omega) h
end Go.Proofs.YtmfhpddeclggfaaGreatDoor
namespace Go.Proofs.YtmfhpddeclggfaaGreatDoor
open Go.RowKit
/-! Reading back: the plain facts. -/
theorem wb_of {c : UInt8} (h : 33 ≤ c.toNat ∧ c.toNat ≤ 126 ∧ c.toNat ≠ 63 ∧ c.toNat ≠ 64) : wb c.toNat = true := by
  unfold wb
  exact decide_eq_true (by omega)
theorem wordL_of {l : List UInt8} (h1 : 1 ≤ l.length) (h2 : l.length ≤ 120) (h : ∀ c ∈ l, 33 ≤ c.toNat ∧ c.toNat ≤ 126 ∧ c.toNat ≠ 63 ∧ c.toNat ≠ 64) : wordL l = true := by
  unfold wordL
  rw [Bool.and_eq_true]
  exact ⟨decide_eq_true ⟨h1, h2⟩, List.all_eq_true.2 fun c hc => wb_of (h c hc)⟩
theorem wordL_itoa {n : Int} (hn : I64 n) : wordL (Lib.itoa n) = true := by
  obtain ⟨h1, h2⟩ := itoa_len n hn.1 hn.2
  refine wordL_of h1 (by omega) fun c hc => ?_
  have hd : ∀ u, ∀ c ∈ Lib.decDigits u, 33 ≤ c.toNat ∧ c.toNat ≤ 126 ∧ c.toNat ≠ 63 ∧ c.toNat ≠ 64 := fun u c hc => by
    have := decDigits_byte u c hc
    omega
  unfold Lib.itoa at hc
  split at hc
  · rcases List.mem_cons.1 hc with rfl | h
    · decide
    · exact hd _ c h
  · exact hd _ c hc
theorem hx_fin : ∀ d : Fin 16, 48 ≤ (hx d.val).toNat ∧ (hx d.val).toNat ≤ 102 ∧ (hx d.val).toNat ≠ 63 ∧ (hx d.val).toNat ≠ 64 := by decide +kernel
theorem hx_byte (d : Nat) (h : d < 16) : 33 ≤ (hx d).toNat ∧ (hx d).toNat ≤ 126 ∧ (hx d).toNat ≠ 63 ∧ (hx d).toNat ≠ 64 := by
  have := hx_fin ⟨d, h⟩
  simp only at this
  omega
theorem wordL_txt {l : List UInt8} (h : l.length ≤ 50) : wordL (txt l) = true := by
  have hl := txt_length l
  refine wordL_of (by omega) (by omega) fun c hc => ?_
  unfold txt at hc
  rcases List.mem_cons.1 hc with rfl | h
  · decide
  · obtain ⟨x, -, hx2⟩ := List.mem_flatMap.1 h
    have hx3 := x.toNat_lt
    rcases List.mem_cons.1 hx2 with rfl | h3
    · exact hx_byte _ (by omega)
    · obtain rfl := List.mem_singleton.1 h3
      exact hx_byte _ (by omega)
def pairs (l : List UInt8) : List UInt8 := l.flatMap fun c => [hx (c.toNat / 16), hx (c.toNat % 16)]
theorem pairs_len (l : List UInt8) : (pairs l).length = 2 * l.length := by
  have := txt_length l
  unfold txt at this
  unfold pairs
  simp only [List.length_cons] at this
  omega
theorem pairs_get : ∀ (l : List UInt8) (j : Nat) (h : j < l.length), (pairs l).getD (2 * j) 0 = hx (l[j].toNat / 16) ∧ (pairs l).getD (2 * j + 1) 0 = hx (l[j].toNat % 16)
  | c :: l, 0, _ => ⟨rfl, rfl⟩
  | c :: l, j + 1, h => by
    have ih := pairs_get l j (by simpa using h)
    have e : pairs (c :: l) = hx (c.toNat / 16) :: hx (c.toNat % 16) :: pairs l := rfl
    rw [e, show 2 * (j + 1) = 2 * j + 1 + 1 from by omega, List.getD_cons_succ, List.getD_cons_succ, show 2 * j + 1 + 1 + 1 = 2 * j + 1 + 1 + 1 from rfl, List.getD_cons_succ, List.getD_cons_succ]
    simpa using ih
theorem pfold_pairs (l : List UInt8) : ∀ j, j ≤ l.length → pfold (pairs l) j = some (l.take j)
  | 0, _ => by simp [pfold]
  | j + 1, h => by
    obtain ⟨h1, h2⟩ := pairs_get l j (by omega)
    have hx3 := l[j].toNat_lt
    rw [pfold, pfold_pairs l j (by omega), h1, h2, dgI_hx _ (by omega), dgI_hx _ (by omega)]
    simp only [show ¬ (((l[j].toNat / 16 : Nat) : Int) < 0 ∨ ((l[j].toNat % 16 : Nat) : Int) < 0) from by omega, if_false]
    have e : 16 * ((l[j].toNat / 16 : Nat) : Int).toNat + ((l[j].toNat % 16 : Nat) : Int).toNat = l[j].toNat := by omega
    show some (l.take j ++ [UInt8.ofNat (16 * ((l[j].toNat / 16 : Nat) : Int).toNat + ((l[j].toNat % 16 : Nat) : Int).toNat)]) = _
    rw [e, UInt8.ofNat_toNat, List.take_succ_eq_append_getElem (by omega)]
theorem rdText_txt {l : List UInt8} (h : l.length ≤ 50) : rdText (txt l) = some l := by
  have hl := pairs_len l
  show (if (61 : UInt8) = 61 ∧ (pairs l).length % 2 = 0 ∧ (pairs l).length ≤ 100 then pfold (pairs l) ((pairs l).length / 2) else none) = some l
  rw [if_pos ⟨rfl, by omega, by omega⟩, show (pairs l).length / 2 = l.length from by omega, pfold_pairs l _ (Nat.le_refl _), List.take_length]
theorem hx_dg (c : UInt8) (h : ¬ dgI c < 0) : hx (dgI c).toNat = c ∧ (dgI c).toNat < 16 := by
  rcases dgI_cases c with e | ⟨h1, h2, h3⟩
  · rw [e] at h; exact absurd (by decide) h
  · exact ⟨h3, by omega⟩
theorem pfold_some (r : List UInt8) : ∀ j b, 2 * j ≤ r.length → pfold r j = some b → b.length = j ∧ pairs b = r.take (2 * j)
  | 0, b, _, h => by
    obtain rfl : [] = b := by simpa [pfold] using h
    simp [pairs]
  | j + 1, b, hl, h => by
    rw [pfold] at h
    cases hp : pfold r j with
    | none => rw [hp] at h; cases h
    | some c =>
      rw [hp] at h
      obtain ⟨h1, h2⟩ := pfold_some r j c (by omega) hp
      by_cases hd : dgI (r.getD (2 * j) 0) < 0 ∨ dgI (r.getD (2 * j + 1) 0) < 0
      · simp only [if_pos hd] at h; cases h
      · simp only [if_neg hd, Option.some.injEq] at h
        subst h
        obtain ⟨a1, a2⟩ := hx_dg (r.getD (2 * j) 0) (fun e => hd (.inl e))
        obtain ⟨b1, b2⟩ := hx_dg (r.getD (2 * j + 1) 0) (fun e => hd (.inr e))
        refine ⟨by simp [h1], ?_⟩
        have hz : (UInt8.ofNat (16 * (dgI (r.getD (2 * j) 0)).toNat + (dgI (r.getD (2 * j + 1) 0)).toNat)).toNat = 16 * (dgI (r.getD (2 * j) 0)).toNat + (dgI (r.getD (2 * j + 1) 0)).toNat := by
          rw [UInt8.toNat_ofNat']; omega
        have e : pairs (c ++ [UInt8.ofNat (16 * (dgI (r.getD (2 * j) 0)).toNat + (dgI (r.getD (2 * j + 1) 0)).toNat)]) = pairs c ++ [r.getD (2 * j) 0, r.getD (2 * j + 1) 0] := by
          unfold pairs
          rw [List.flatMap_append]
          simp only [List.flatMap_cons, List.flatMap_nil, List.append_nil]
          rw [hz, show (16 * (dgI (r.getD (2 * j) 0)).toNat + (dgI (r.getD (2 * j + 1) 0)).toNat) / 16 = (dgI (r.getD (2 * j) 0)).toNat from by omega, show (16 * (dgI (r.getD (2 * j) 0)).toNat + (dgI (r.getD (2 * j + 1) 0)).toNat) % 16 = (dgI (r.getD (2 * j + 1) 0)).toNat from by omega, a1, b1]
        rw [e, h2, show 2 * (j + 1) = 2 * j + 1 + 1 from by omega, List.take_succ_eq_append_getElem (i := 2 * j + 1) (by omega), List.take_succ_eq_append_getElem (i := 2 * j) (by omega)]
        rw [List.getD, List.getD, List.getElem?_eq_getElem (by omega : 2 * j < r.length), List.getElem?_eq_getElem (by omega : 2 * j + 1 < r.length), Option.getD_some, Option.getD_some, List.append_assoc]
        rfl
theorem rdText_some {l r : List UInt8} (h : rdText l = some r) : txt r = l ∧ r.length ≤ 50 := by
  cases l with
  | nil => cases h
  | cons c t =>
    unfold rdText at h
    by_cases hc : c = 61 ∧ t.length % 2 = 0 ∧ t.length ≤ 100
    · simp only [if_pos hc] at h
      obtain ⟨h1, h2⟩ := pfold_some t _ r (by omega) h
      refine ⟨?_, by omega⟩
      show 61 :: pairs r = c :: t
      rw [h2, List.take_of_length_le (by omega), hc.1]
    · simp only [if_neg hc] at h; cases h
theorem index_no (c : UInt8) : ∀ l : List UInt8, (∀ x ∈ l, x ≠ c) → Lib.index l [c] = -1
  | [], _ => rfl
  | b :: l, h => by
    have hb : b ≠ c := h b List.mem_cons_self
    have ih := index_no c l (fun x hx => h x (List.mem_cons_of_mem _ hx))
    rw [Lib.index, ih]
    simp [List.isPrefixOf, Ne.symm hb]
end Go.Proofs.YtmfhpddeclggfaaGreatDoor
