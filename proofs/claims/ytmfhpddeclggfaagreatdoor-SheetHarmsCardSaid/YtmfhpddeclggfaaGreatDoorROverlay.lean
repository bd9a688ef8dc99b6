import Derived.Test.YtmfhpddeclggfaaGreatDoorSheetsOf
import Derived.WalkKit
import Derived.LoopTactic
import Derived.WalkSpells
import Derived.WalkLawsBesides
import Derived.Lib.Hide
import Derived.BigQuiet
import Derived.IntWalk
import Derived.Deep.DeepMust
import Derived.WalkSmall
import Derived.StillTailTactics
import Derived.Lib.SlBytesConst
import Derived.Deep.RegionLaw
import Derived.Deep.QuietTactic
namespace Go.Proofs.YtmfhpddeclggfaaGreatDoor
open Go.RowKit
theorem snoc_ind {P : List UInt8 → Prop} (h0 : P []) (h1 : ∀ l c, P l → P (l ++ [c])) (l : List UInt8) : P l := by
  have : ∀ (r : List UInt8), P r.reverse := by
    intro r
    induction r with
    | nil => exact h0
    | cons c r ih => rw [List.reverse_cons]; exact h1 _ _ ih
  have h := this l.reverse
  rwa [List.reverse_reverse] at h
theorem lastB_63 (l : List UInt8) : lastB l = 63 → ∀ c ∈ l, c = 63 := by
  induction l using snoc_ind with
  | h0 => simp
  | h1 l c ih =>
    rw [lastB_snoc]
    by_cases h : c = 63
    · rw [if_pos h]
      intro hl x hx
      rcases List.mem_append.1 hx with h2 | h2
      · exact ih hl x h2
      · rw [List.mem_singleton.1 h2]; exact h
    · rw [if_neg h]; intro e; exact absurd e h
theorem count_two (a : UInt8) (ha : a ≠ 63) (l : List UInt8) : l.count a + l.count 63 ≤ l.length ∧ (l.count a + l.count 63 = l.length ↔ ∀ c ∈ l, c = 63 ∨ c = a) := by
  induction l with
  | nil => simp
  | cons c r ih =>
    obtain ⟨h1, h2⟩ := ih
    rw [List.count_cons, List.count_cons, List.length_cons]
    have hb : (a == (63 : UInt8)) = false := beq_eq_false_iff_ne.2 ha
    by_cases e1 : c = a
    · subst e1
      rw [hb]
      simp only [beq_self_eq_true, if_true, Bool.false_eq_true, if_false]
      refine ⟨by omega, ?_⟩
      constructor
      · intro h x hx
        rcases List.mem_cons.1 hx with h3 | h3
        · exact Or.inr h3
        · exact h2.1 (by omega) x h3
      · intro h
        have := h2.2 fun x hx => h x (List.mem_cons_of_mem _ hx)
        omega
    · have e1' : (c == a) = false := beq_eq_false_iff_ne.2 e1
      by_cases e2 : c = 63
      · subst e2
        rw [e1']
        simp only [beq_self_eq_true, if_true, Bool.false_eq_true, if_false]
        refine ⟨by omega, ?_⟩
        constructor
        · intro h x hx
          rcases List.mem_cons.1 hx with h3 | h3
          · exact Or.inl h3
          · exact h2.1 (by omega) x h3
        · intro h
          have := h2.2 fun x hx => h x (List.mem_cons_of_mem _ hx)
          omega
      · have e2' : (c == (63 : UInt8)) = false := beq_eq_false_iff_ne.2 e2
        rw [e1', e2']
        simp only [Bool.false_eq_true, if_false]
        refine ⟨by omega, ?_⟩
        constructor
        · intro h; omega
        · intro h
          rcases h c List.mem_cons_self with h3 | h3
          · exact absurd h3 e2
          · exact absurd h3 e1
theorem oneB_iff (l : List UInt8) : oneB l = true ↔ ∀ c ∈ l, c = 63 ∨ c = lastB l := by
  unfold oneB
  by_cases h : lastB l = 63
  · simp only [h, decide_true, Bool.true_or, true_iff]
    intro c hc
    exact Or.inl (lastB_63 l h c hc)
  · rw [decide_eq_false h, Bool.false_or, decide_eq_true_iff]
    exact (count_two (lastB l) h l).2
/-- One byte more of a column, as the reference lays it. -/
def stepC (m c : UInt8) : Option UInt8 := if m = 63 then some c else if c ≠ 63 ∧ c ≠ m then none else some m
theorem one_step (l : List UInt8) (c : UInt8) (h : oneB l = true) : stepC (lastB l) c = if oneB (l ++ [c]) = true then some (lastB (l ++ [c])) else none := by
  have hl := (oneB_iff l).1 h
  have hs := oneB_iff (l ++ [c])
  rw [lastB_snoc] at hs ⊢
  unfold stepC
  by_cases h1 : lastB l = 63
  · have h2 := lastB_63 l h1
    rw [if_pos h1]
    have : oneB (l ++ [c]) = true := by
      rw [hs]
      intro x hx
      rcases List.mem_append.1 hx with h3 | h3
      · exact Or.inl (h2 x h3)
      · rw [List.mem_singleton.1 h3]
        by_cases hc : c = 63
        · exact Or.inl hc
        · rw [if_neg hc]; exact Or.inr rfl
    rw [if_pos this]
    by_cases hc : c = 63
    · rw [if_pos hc, h1, hc]
    · rw [if_neg hc]
  · rw [if_neg h1]
    by_cases hc : c = 63
    · rw [if_neg (fun e => e.1 hc)]
      have : oneB (l ++ [c]) = true := by
        rw [hs, if_pos hc]
        intro x hx
        rcases List.mem_append.1 hx with h3 | h3
        · exact hl x h3
        · rw [List.mem_singleton.1 h3]; exact Or.inl hc
      rw [if_pos this, if_pos hc]
    · rw [if_neg hc] at hs ⊢
      by_cases hm : c = lastB l
      · rw [if_neg (fun e => e.2 hm)]
        have : oneB (l ++ [c]) = true := by
          rw [hs]
          intro x hx
          rcases List.mem_append.1 hx with h3 | h3
          · rw [hm]; exact hl x h3
          · rw [List.mem_singleton.1 h3]; exact Or.inr rfl
        rw [if_pos this, hm]
      · rw [if_pos ⟨hc, hm⟩]
        rw [if_neg]
        intro e
        have h3 := hs.1 e
        -- lastB l occurs in l
        have hmem : lastB l ∈ l := by
          have : ∀ l : List UInt8, lastB l ≠ 63 → lastB l ∈ l := by
            intro l
            induction l using snoc_ind with
            | h0 => intro h; exact absurd rfl h
            | h1 l c ih =>
              rw [lastB_snoc]
              by_cases h : c = 63
              · rw [if_pos h]; intro h2; exact List.mem_append_left _ (ih h2)
              · rw [if_neg h]; intro _; exact List.mem_append_right _ (List.mem_singleton.2 rfl)
          exact this l h1
        rcases h3 (lastB l) (List.mem_append_left _ hmem) with h4 | h4
        · exact h1 h4
        · exact hm h4.symm
theorem one_prefix (l r : List UInt8) (h : oneB (l ++ r) = true) : oneB l = true := by
  induction r using snoc_ind with
  | h0 => rwa [List.append_nil] at h
  | h1 r c ih =>
    apply ih
    rw [← List.append_assoc] at h
    have hs := (oneB_iff _).1 h
    rw [oneB_iff]
    intro x hx
    rw [lastB_snoc] at hs
    by_cases hc : c = 63
    · rw [if_pos hc] at hs; exact hs x (List.mem_append_left _ hx)
    · rw [if_neg hc] at hs
      by_cases hL : lastB (l ++ r) = 63
      · exact Or.inl (lastB_63 _ hL x hx)
      · have hmem : lastB (l ++ r) ∈ l ++ r := by
          have : ∀ l : List UInt8, lastB l ≠ 63 → lastB l ∈ l := by
            intro l
            induction l using snoc_ind with
            | h0 => intro h; exact absurd rfl h
            | h1 l c ih =>
              rw [lastB_snoc]
              by_cases h : c = 63
              · rw [if_pos h]; intro h2; exact List.mem_append_left _ (ih h2)
              · rw [if_neg h]; intro _; exact List.mem_append_right _ (List.mem_singleton.2 rfl)
          exact this _ hL
        rcases hs _ (List.mem_append_left _ hmem) with h4 | h4
        · exact absurd h4 hL
        · rw [h4]; exact hs x (List.mem_append_left _ hx)
theorem below_bytes (w : World) (e : TypeId) (s : ByteArray) : Below w.heap.size w (Lib.bytesWorld w e s) :=
  ⟨rfl, rfl, rfl, by rw [Lib.bytesWorld_size]; omega, fun i hi => Lib.bytesWorld_at_old w e s i hi⟩
theorem frozen_bytes (w : World) (e : TypeId) (s : ByteArray) (o : Nat) (h : o < s.size) : (Lib.bytesWorld w e s).frozen? ⟨w.heap.size, o, none⟩ = false := by
  have h1 := Lib.bytesWorld_at_new w e s
  have h2 : o < (Lib.bytesCells w e s).size := by
    unfold Lib.bytesCells
    rw [Array.size_append, Array.size_map]
    exact Nat.lt_of_lt_of_le h (Nat.le_add_right _ _)
  unfold World.frozen?
  rw [h1]
  simp
  omega
/-- How the world stands while the reference lays texts over each other: up to column k with i + 1 texts, behind it with i. -/
structure RO (w W : World) (ts : List ByteArray) (n i k : Nat) : Prop where
  bel : Below w.heap.size w W
  lt : w.heap.size < W.heap.size
  fr : ∀ o, o < n → W.frozen? ⟨w.heap.size, o, none⟩ = false
  row : ∀ o, o < n → W.cell? ⟨w.heap.size, o, none⟩ = some (.int .u8 (lastB ((colOf ts o).take (if o < k then i + 1 else i))).toNat)
theorem RO.over {w W : World} {ts : List ByteArray} {n i : Nat} (h : RO w W ts n i n) : RO w W ts n (i + 1) 0 :=
  ⟨h.bel, h.lt, h.fr, fun o ho => by rw [h.row o ho, if_pos ho, if_neg (Nat.not_lt_zero _)]⟩
theorem RO.keep {w W : World} {ts : List ByteArray} {n i k : Nat} (h : RO w W ts n i k) (e : lastB ((colOf ts k).take (i + 1)) = lastB ((colOf ts k).take i)) : RO w W ts n i (k + 1) :=
  ⟨h.bel, h.lt, h.fr, fun o ho => by
    rw [h.row o ho]
    by_cases h1 : o < k
    · rw [if_pos h1, if_pos (by omega)]
    · by_cases h2 : o = k
      · subst h2; rw [if_neg h1, if_pos (Nat.lt_succ_self _), e]
      · rw [if_neg h1, if_neg (by omega)]⟩
theorem RO.set {w W : World} {ts : List ByteArray} {n i k : Nat} (h : RO w W ts n i k) (hk : k < n) (c : UInt8) (e : lastB ((colOf ts k).take (i + 1)) = c) : RO w (W.setCell ⟨w.heap.size, k, none⟩ (.int .u8 c.toNat)) ts n i (k + 1) := by
  refine ⟨h.bel.setCell (p := ⟨w.heap.size, k, none⟩) (Nat.le_refl _) _, by simpa using h.lt, fun o ho => by rw [World.frozen?_setCell]; exact h.fr o ho, fun o ho => ?_⟩
  by_cases h2 : k = o
  · subst h2
    rw [if_pos (Nat.lt_succ_self _), e]
    exact World.cell?_setCell_same _ _ _ (h.row k hk)
  · rw [World.cell?_setCell_other _ _ _ _ (addr_ne h2), h.row o ho]
    by_cases h1 : o < k
    · rw [if_pos h1, if_pos (by omega)]
    · rw [if_neg h1, if_neg (by omega)]
theorem RO.start (w : World) (ts : List ByteArray) (h0 : 0 < ts.length) : RO w (Lib.bytesWorld w 5 (ts.getD 0 ByteArray.empty)) ts (ts.getD 0 ByteArray.empty).size 1 0 := by
  refine ⟨below_bytes _ _ _, by rw [Lib.bytesWorld_size]; omega, fun o ho => frozen_bytes _ _ _ _ ho, fun o ho => ?_⟩
  rw [Lib.bytesWorld_cell _ _ _ _ ho, if_neg (Nat.not_lt_zero _)]
  have h1 := col_snoc ts o 0 _ h0 rfl
  rw [h1, List.take_zero, List.nil_append]
  have h2 : ∀ c : UInt8, lastB [c] = c := fun c => by
    unfold lastB
    by_cases hc : c = 63
    · simp [hc]
    · simp [hc]
  rw [h2]
theorem one_first (ts : List ByteArray) (o : Nat) (h0 : 0 < ts.length) : oneB ((colOf ts o).take 1) = true := by
  rw [col_snoc ts o 0 _ h0 rfl, List.take_zero, List.nil_append, oneB_iff]
  intro c hc
  rw [List.mem_singleton.1 hc]
  unfold lastB
  by_cases h : (ts.getD 0 ByteArray.empty).data.toList.getD o 0 = 63
  · exact Or.inl h
  · exact Or.inr (by simp)
theorem col_one_of (ts : List ByteArray) (o i : Nat) (h : oneB (colOf ts o) = true) : oneB ((colOf ts o).take i) = true :=
  one_prefix _ ((colOf ts o).drop i) (by rw [List.take_append_drop]; exact h)
set_option maxRecDepth 100000 in
set_option maxHeartbeats 2000000 in
theorem rOverlay_same (p : Option Addr) (cap n : Nat) (ts : List ByteArray) (w : World) (h0 : 0 < ts.length) (hts : ts.length ≤ 1000000) (hn : n ≤ 1000000) (hk : ∀ j, j < ts.length → (ts.getD j ByteArray.empty).size = n) (hp : StrsAt w p ts) :
    Calls Tryz.prog 51 #[.slice p ts.length cap] w fun e w' => e = .returned (ovVal ts n) ∧ Below w.heap.size w w' := by
  have HP := Lib.hid hp
  have HK := Lib.hid hk
  have hne : ((ts.length : Int) == 0) = false := by rw [beq_eq_false_iff_ne]; omega
  obtain ⟨b, o, rfl, hbw, hc00⟩ : ∃ b o, p = some ⟨b, o, none⟩ ∧ b < w.heap.size ∧ w.cell? ⟨b, o, none⟩ = some (.string (ts.getD 0 ByteArray.empty)) := by
    rcases hp with h | ⟨b, o, e1, e2, e3⟩
    · rw [h] at h0; exact absurd h0 (by simp)
    · exact ⟨b, o, e1, e2, e3 0 h0⟩
  have HBW := Lib.hid hbw
  have R0 := RO.start w ts h0
  have hsz0 := hk 0 h0
  rw [hsz0] at R0
  obtain ⟨s0, hs0⟩ : ∃ s0, ts.getD 0 ByteArray.empty = s0 := ⟨_, rfl⟩
  rw [hs0] at hc00 R0 hsz0
  have hcv := Lib.run_convert_string_bytes (P := Tryz.prog) w 9 106 5 s0 Tryz.underlying9 und106 Tryz.underlying5
  obtain ⟨W0, hW0⟩ : ∃ W0, Lib.bytesWorld w 5 s0 = W0 := ⟨_, rfl⟩
  rw [hW0] at hcv R0
  rw [hsz0] at hcv
  obtain ⟨gc, hgc⟩ : ∃ gc, grownCap w n 0 5 = gc := ⟨_, rfl⟩
  rw [hgc] at hcv
  have R := Lib.hid R0
  have H1 : Hid (∀ o, o < n → oneB ((colOf ts o).take 1) = true) := fun o _ => one_first ts o h0
  clear hp hk hbw R0 hW0 hgc hs0 hsz0
  go_enter Tryz.func51, Tryz.ntmps51
  go_wp2_with fail
  go_loopw [5] (fun i wr => ∃ j : Nat, 1 ≤ j ∧ j ≤ ts.length ∧ i = .int .i64 j ∧ Hid (∀ o, o < n → oneB ((colOf ts o).take j) = true) ∧ Hid (RO w wr ts n j 0)) (fun i _ => ts.length - (intOf i).toNat)
  case atStart => exact ⟨1, Nat.le_refl _, by omega, rfl, H1, R⟩
  case round =>
    clear R H1 hcv hc00
    obtain ⟨i, h1i, hi, rfl, HA, R⟩ := hrel
    by_cases hlt : i < ts.length
    · obtain ⟨s, hc0, hs⟩ : ∃ s, Hid (∀ W, Below w.heap.size w W → W.cell? ⟨b, o + i, none⟩ = some (.string s)) ∧ Hid (ts.getD i ByteArray.empty = s) := by
        rcases HP.out with h | ⟨b, o, e1, e2, e3⟩
        · rw [h] at hlt; exact absurd hlt (by simp)
        · cases e1
          exact ⟨_, fun W hW => by rw [hW.cell (p := ⟨b, o + i, none⟩) e2]; exact e3 i hlt, rfl⟩
      have hsz : s.size = n := by rw [← hs.out]; exact HK.out i hlt
      have hcs := hc0.out _ R.out.bel
      go_wp2_with fail
      go_loopw [6] (fun q wz => ∃ k : Nat, k ≤ n ∧ q = .int .i64 k ∧ Hid (∀ o, o < k → oneB ((colOf ts o).take (i + 1)) = true) ∧ Hid (RO w wz ts n i k)) (fun q _ => n - (intOf q).toNat)
      case atStart => exact ⟨0, Nat.zero_le _, rfl, fun o h => absurd h (Nat.not_lt_zero _), R⟩
      case round =>
        clear R hcs
        obtain ⟨k, hkn, rfl, HB, R⟩ := hrel
        by_cases hk2 : k < n
        · have hcs := hc0.out _ R.out.bel
          obtain ⟨m, hm⟩ : ∃ m, lastB ((colOf ts k).take i) = m := ⟨_, rfl⟩
          have rk := R.out.row k hk2
          rw [if_neg (Nat.lt_irrefl _), hm] at rk
          have rf := R.out.fr k hk2
          have hks : k < s.size := by omega
          obtain ⟨c, hc⟩ : ∃ c, s[k] = c := ⟨_, rfl⟩
          have hsn := col_snoc ts k i c hlt (by rw [hs.out, List.getD, List.getElem?_eq_getElem (by simpa using hks)]; exact hc)
          have hst := one_step ((colOf ts k).take i) c (HA.out k hk2)
          rw [← hsn, hm] at hst
          have HST := Lib.hid hst
          have HM := Lib.hid hm
          have hml := m.toNat_lt
          have hcl := c.toNat_lt
          have j63 : ∀ x : UInt8, x ≠ 63 → ((x.toNat : Int) == 63) = false := fun x hx => by
            rw [beq_eq_false_iff_ne]
            exact fun h => hx (UInt8.toNat_inj.1 (by have : (63 : UInt8).toNat = 63 := rfl; omega))
          have good : ∀ r, stepC m c = some r → oneB ((colOf ts k).take (i + 1)) = true ∧ lastB ((colOf ts k).take (i + 1)) = r := fun r hr => by
            rw [HST.out] at hr
            by_cases ho : oneB ((colOf ts k).take (i + 1)) = true
            · rw [if_pos ho] at hr; exact ⟨ho, Option.some.inj hr⟩
            · rw [if_neg ho] at hr; cases hr
          have more : oneB ((colOf ts k).take (i + 1)) = true → Hid (∀ o, o < k + 1 → oneB ((colOf ts o).take (i + 1)) = true) := fun h => by
            intro o ho
            by_cases e : o = k
            · rw [e]; exact h
            · exact HB.out o (by omega)
          clear hst hm hsn
          by_cases m63 : m = 63
          · have g := good c (by unfold stepC; rw [if_pos m63])
            have HB2 := more g.1
            have R2 := Lib.hid (R.out.set hk2 c g.2)
            have t63 : ((m.toNat : Int) == 63) = true := by rw [m63]; rfl
            by_cases c63 : c = 63
            · have u63 : ((c.toNat : Int) != 63) = false := by rw [c63]; rfl
              clear good more j63 g HB R HST HM m63 c63
              go_wp2_with fail
              exact ⟨⟨k + 1, by omega, by go_num, HB2, R2⟩, by simp [intOf]; omega⟩
            · have u63 : ((c.toNat : Int) != 63) = true := by rw [bne, j63 c c63]; rfl
              clear good more j63 g HB R HST HM m63 c63
              go_wp2_with fail
              exact ⟨⟨k + 1, by omega, by go_num, HB2, R2⟩, by simp [intOf]; omega⟩
          · have t63 := j63 m m63
            by_cases c63 : c = 63
            · have g := good m (by unfold stepC; rw [if_neg m63, if_neg (fun e => e.1 c63)])
              have HB2 := more g.1
              have R2 := Lib.hid (R.out.keep (by rw [g.2, HM.out]))
              have u63 : ((c.toNat : Int) != 63) = false := by rw [c63]; rfl
              clear good more j63 g HB R HST HM m63 c63
              go_wp2_with fail
              exact ⟨⟨k + 1, by omega, by go_num, HB2, R2⟩, by simp [intOf]; omega⟩
            · have u63 : ((c.toNat : Int) != 63) = true := by rw [bne, j63 c c63]; rfl
              by_cases cm : c = m
              · have g := good m (by unfold stepC; rw [if_neg m63, if_neg (fun e => e.2 cm)])
                have HB2 := more g.1
                have R2 := Lib.hid (R.out.keep (by rw [g.2, HM.out]))
                have v : ((c.toNat : Int) != (m.toNat : Int)) = false := by rw [cm]; simp
                clear good more j63 g HB R HST HM m63 c63 cm
                go_wp2_with fail
                exact ⟨⟨k + 1, by omega, by go_num, HB2, R2⟩, by simp [intOf]; omega⟩
              · have v : ((c.toNat : Int) != (m.toNat : Int)) = true := by
                  rw [bne_iff_ne]; exact fun h => cm (UInt8.toNat_inj.1 (by omega))
                have HR : Hid (ovVal ts n = .tuple #[.string ⟨#[]⟩, .bool false]) := by
                  unfold ovVal Hid
                  rw [if_neg]
                  intro h
                  have h2 := col_one_of ts k (i + 1) (List.all_eq_true.1 h k (List.mem_range.2 hk2))
                  have h3 := HST.out
                  unfold stepC at h3
                  rw [if_neg m63, if_pos ⟨c63, cm⟩, if_pos h2] at h3
                  cases h3
                have HBL := Lib.hid R.out.bel
                clear good more j63 HB R HST HM m63 c63 cm
                go_wp2_with fail
                go_ret2
                exact ⟨by rw [HR.out]; rfl, HBL.out⟩
        · obtain rfl : k = n := by omega
          have R2 := Lib.hid R.out.over
          clear R HA
          go_wp2_with fail
          exact ⟨⟨i + 1, by omega, by omega, by go_num, HB, R2⟩, by simp [intOf]; omega⟩
    · obtain rfl : i = ts.length := by omega
      have hfull : ∀ o, (colOf ts o).take ts.length = colOf ts o := fun o => List.take_of_length_le (Nat.le_of_eq (colOf_len ts o))
      have HR : Hid (ovVal ts n = .tuple #[.string (bs ((List.range n).map fun k => lastB (colOf ts k))), .bool true]) := by
        unfold ovVal Hid
        rw [if_pos (List.all_eq_true.2 fun k hk => by have := HA.out k (List.mem_range.1 hk); rwa [hfull] at this)]
      have hconv := run_convert_bytes_arg (P := Tryz.prog) wr 106 5 und106 Tryz.underlying5 w.heap.size 0 n gc (((List.range n).map fun k => lastB (colOf ts k)).map fun b => (b.toNat : Int)) (by simp) (fun i hi => by
        rw [Nat.zero_add, R.out.row i hi, if_neg (Nat.not_lt_zero _), hfull]
        simp [List.getD, hi]) 9 Tryz.underlying9
      rw [strOfNums_bytes] at hconv
      have HB := Lib.hid R.out.bel
      clear R HA hfull
      go_wp2_with fail
      go_ret2
      exact ⟨by rw [HR.out]; rfl, HB.out⟩
/-- The same, of which no more is known than that bytes lie there. -/
structure RX (w W : World) (n : Nat) : Prop where
  bel : Below w.heap.size w W
  lt : w.heap.size < W.heap.size
  fr : ∀ o, o < n → W.frozen? ⟨w.heap.size, o, none⟩ = false
  row : ∀ o, o < n → ∃ m : UInt8, W.cell? ⟨w.heap.size, o, none⟩ = some (.int .u8 m.toNat)
theorem RX.set {w W : World} {n k : Nat} (h : RX w W n) (hk : k < n) (c : UInt8) : RX w (W.setCell ⟨w.heap.size, k, none⟩ (.int .u8 c.toNat)) n := by
  refine ⟨h.bel.setCell (p := ⟨w.heap.size, k, none⟩) (Nat.le_refl _) _, by simpa using h.lt, fun o ho => by rw [World.frozen?_setCell]; exact h.fr o ho, fun o ho => ?_⟩
  by_cases h2 : k = o
  · subst h2
    obtain ⟨m, hm⟩ := h.row k hk
    exact ⟨c, World.cell?_setCell_same _ _ _ hm⟩
  · obtain ⟨m, hm⟩ := h.row o ho
    exact ⟨m, by rw [World.cell?_setCell_other _ _ _ _ (addr_ne h2)]; exact hm⟩
theorem RX.start (w : World) (s : ByteArray) : RX w (Lib.bytesWorld w 5 s) s.size :=
  ⟨below_bytes _ _ _, by rw [Lib.bytesWorld_size]; omega, fun o ho => frozen_bytes _ _ _ _ ho, fun o ho => ⟨_, Lib.bytesWorld_cell _ _ _ _ ho⟩⟩
set_option maxRecDepth 100000 in
set_option maxHeartbeats 1000000 in
theorem rOverlay_none (p : Option Addr) (cap : Nat) (w : World) :
    Calls Tryz.prog 51 #[.slice p 0 cap] w fun e w' => e = .returned (.tuple #[.string ⟨#[]⟩, .bool false]) ∧ w = w' := by
  go_enter Tryz.func51, Tryz.ntmps51
  go_wp2_with fail
  go_ret2
  exact ⟨rfl, rfl⟩
set_option maxRecDepth 100000 in
set_option maxHeartbeats 2000000 in
theorem rOverlay_diff (p : Option Addr) (cap n d : Nat) (ts : List ByteArray) (w : World) (h0 : 0 < d) (hd : d < ts.length) (hts : ts.length ≤ 1000000) (hn : n ≤ 1000000) (hk : ∀ j, j < d → (ts.getD j ByteArray.empty).size = n) (hdd : (ts.getD d ByteArray.empty).size ≠ n) (hdm : (ts.getD d ByteArray.empty).size ≤ 1000000) (hp : StrsAt w p ts) :
    Calls Tryz.prog 51 #[.slice p ts.length cap] w fun e w' => e = .returned (.tuple #[.string ⟨#[]⟩, .bool false]) ∧ Below w.heap.size w w' := by
  have HP := Lib.hid hp
  have HK := Lib.hid hk
  have HD := Lib.hid hdd
  have HDM := Lib.hid hdm
  have hne : ((ts.length : Int) == 0) = false := by rw [beq_eq_false_iff_ne]; omega
  obtain ⟨b, o, rfl, hbw, hc00⟩ : ∃ b o, p = some ⟨b, o, none⟩ ∧ b < w.heap.size ∧ w.cell? ⟨b, o, none⟩ = some (.string (ts.getD 0 ByteArray.empty)) := by
    rcases hp with h | ⟨b, o, e1, e2, e3⟩
    · rw [h] at hd; exact absurd hd (by simp)
    · exact ⟨b, o, e1, e2, e3 0 (by omega)⟩
  have hsz0 := hk 0 h0
  obtain ⟨s0, hs0⟩ : ∃ s0, ts.getD 0 ByteArray.empty = s0 := ⟨_, rfl⟩
  rw [hs0] at hc00 hsz0
  have R0 := RX.start w s0
  rw [hsz0] at R0
  have hcv := Lib.run_convert_string_bytes (P := Tryz.prog) w 9 106 5 s0 Tryz.underlying9 und106 Tryz.underlying5
  obtain ⟨W0, hW0⟩ : ∃ W0, Lib.bytesWorld w 5 s0 = W0 := ⟨_, rfl⟩
  rw [hW0] at hcv R0
  rw [hsz0] at hcv
  obtain ⟨gc, hgc⟩ : ∃ gc, grownCap w n 0 5 = gc := ⟨_, rfl⟩
  rw [hgc] at hcv
  have R := Lib.hid R0
  clear hp hk hbw R0 hW0 hgc hs0 hsz0 hdd hdm
  go_enter Tryz.func51, Tryz.ntmps51
  go_wp2_with fail
  go_loopw [5] (fun i wr => ∃ j : Nat, 1 ≤ j ∧ j ≤ d ∧ i = .int .i64 j ∧ Hid (RX w wr n)) (fun i _ => ts.length - (intOf i).toNat)
  case atStart => exact ⟨1, Nat.le_refl _, by omega, rfl, R⟩
  case round =>
    clear R hcv hc00
    obtain ⟨i, h1i, hi, rfl, R⟩ := hrel
    have hlt : i < ts.length := by omega
    obtain ⟨s, hc0, hs⟩ : ∃ s, Hid (∀ W, Below w.heap.size w W → W.cell? ⟨b, o + i, none⟩ = some (.string s)) ∧ Hid (ts.getD i ByteArray.empty = s) := by
      rcases HP.out with h | ⟨b, o, e1, e2, e3⟩
      · rw [h] at hlt; exact absurd hlt (by simp)
      · cases e1
        exact ⟨_, fun W hW => by rw [hW.cell (p := ⟨b, o + i, none⟩) e2]; exact e3 i hlt, rfl⟩
    have hcs := hc0.out _ R.out.bel
    by_cases hid : i = d
    · have hsd : ¬ (s.size : Int) = n := by
        have h1 := HD.out
        rw [← hid, hs.out] at h1
        omega
      have hsm : s.size ≤ 1000000 := by rw [← hs.out, hid]; exact HDM.out
      have HB := Lib.hid R.out.bel
      clear R hid
      go_wp2_with fail
      go_ret2
      exact ⟨rfl, HB.out⟩
    · have hsz : s.size = n := by rw [← hs.out]; exact HK.out i (by omega)
      go_wp2_with fail
      go_loopw [6] (fun q wz => ∃ k : Nat, k ≤ n ∧ q = .int .i64 k ∧ Hid (RX w wz n)) (fun q _ => n - (intOf q).toNat)
      case atStart => exact ⟨0, Nat.zero_le _, rfl, R⟩
      case round =>
        clear R hcs
        obtain ⟨k, hkn, rfl, R⟩ := hrel
        by_cases hk2 : k < n
        · have hcs := hc0.out _ R.out.bel
          obtain ⟨m, rk⟩ := R.out.row k hk2
          have rf := R.out.fr k hk2
          have hks : k < s.size := by omega
          obtain ⟨c, hc⟩ : ∃ c, s[k] = c := ⟨_, rfl⟩
          have hml := m.toNat_lt
          have hcl := c.toNat_lt
          have R2 := Lib.hid (R.out.set hk2 c)
          have HB := Lib.hid R.out.bel
          cases t63 : ((m.toNat : Int) == 63) with
          | true =>
            cases u63 : ((c.toNat : Int) != 63) with
            | true =>
              go_wp2_with fail
              exact ⟨⟨k + 1, by omega, by go_num, R2⟩, by simp [intOf]; omega⟩
            | false =>
              go_wp2_with fail
              exact ⟨⟨k + 1, by omega, by go_num, R2⟩, by simp [intOf]; omega⟩
          | false =>
            cases u63 : ((c.toNat : Int) != 63) with
            | false =>
              go_wp2_with fail
              exact ⟨⟨k + 1, by omega, by go_num, R⟩, by simp [intOf]; omega⟩
            | true =>
              cases v : ((c.toNat : Int) != (m.toNat : Int)) with
              | false =>
                go_wp2_with fail
                exact ⟨⟨k + 1, by omega, by go_num, R⟩, by simp [intOf]; omega⟩
              | true =>
                go_wp2_with fail
                go_ret2
                exact ⟨rfl, HB.out⟩
        · obtain rfl : k = n := by omega
          go_wp2_with fail
          exact ⟨⟨i + 1, by omega, by omega, by go_num, R⟩, by simp [intOf]; omega⟩
theorem sameSz_not {ts : List ByteArray} (h : sameSz ts = false) : ∃ d, 0 < d ∧ d < ts.length ∧ (ts.getD d ByteArray.empty).size ≠ (ts.getD 0 ByteArray.empty).size ∧ ∀ j, j < d → (ts.getD j ByteArray.empty).size = (ts.getD 0 ByteArray.empty).size := by
  have hex : ∃ d, d < ts.length ∧ (ts.getD d ByteArray.empty).size ≠ (ts.getD 0 ByteArray.empty).size := by
    obtain ⟨s, hs1, hs2⟩ := List.all_eq_false.1 h
    obtain ⟨d, hd, hd2⟩ := List.getElem_of_mem hs1
    refine ⟨d, hd, fun e => hs2 (beq_iff_eq.2 ?_)⟩
    rw [← e, List.getD, List.getElem?_eq_getElem hd]
    show s.size = ts[d].size
    rw [hd2]
  have hmin : ∀ n d, d ≤ n → d < ts.length → (ts.getD d ByteArray.empty).size ≠ (ts.getD 0 ByteArray.empty).size → ∃ d, d < ts.length ∧ (ts.getD d ByteArray.empty).size ≠ (ts.getD 0 ByteArray.empty).size ∧ ∀ j, j < d → (ts.getD j ByteArray.empty).size = (ts.getD 0 ByteArray.empty).size := by
    intro n
    induction n with
    | zero =>
      intro d hd h1 h2
      obtain rfl : d = 0 := by omega
      exact absurd rfl h2
    | succ n ih =>
      intro d hd h1 h2
      by_cases hj : ∃ j, j < d ∧ (ts.getD j ByteArray.empty).size ≠ (ts.getD 0 ByteArray.empty).size
      · obtain ⟨j, h3, h4⟩ := hj
        exact ih j (by omega) (by omega) h4
      · refine ⟨d, h1, h2, fun j h3 => ?_⟩
        by_cases e : (ts.getD j ByteArray.empty).size = (ts.getD 0 ByteArray.empty).size
        · exact e
        · exact absurd ⟨j, h3, e⟩ hj
  obtain ⟨d, h1, h2⟩ := hex
  obtain ⟨d, h3, h4, h5⟩ := hmin d d (Nat.le_refl _) h1 h2
  refine ⟨d, ?_, h3, h4, h5⟩
  rcases Nat.eq_zero_or_pos d with h | h
  · subst h; exact absurd rfl h4
  · exact h
/-- The reference's Overlay. -/
theorem rOverlay (p : Option Addr) (cap : Nat) (ts : List ByteArray) (w : World) (hts : ts.length ≤ 1000000) (hk : ∀ j, j < ts.length → (ts.getD j ByteArray.empty).size ≤ 1000000) (hp : StrsAt w p ts) :
    Calls Tryz.prog 51 #[.slice p ts.length cap] w fun e w' => e = .returned (ovRes ts) ∧ Below w.heap.size w w' := by
  by_cases h0 : ts = []
  · subst h0
    refine (rOverlay_none p cap w).mono ?_
    rintro e w' ⟨rfl, rfl⟩
    exact ⟨by rw [ovRes, if_pos rfl], Below.refl _ _⟩
  · have hl : 0 < ts.length := List.length_pos_iff.2 h0
    cases hs : sameSz ts with
    | true =>
      have hR : ovRes ts = ovVal ts (ts.getD 0 ByteArray.empty).size := by rw [ovRes, if_neg h0, if_pos hs]
      rw [hR]
      exact rOverlay_same p cap _ ts w hl hts (hk 0 hl) (fun j hj => by
        have := List.all_eq_true.1 hs _ (getD_mem hj)
        exact eq_of_beq this) hp
    | false =>
      have hR : ovRes ts = .tuple #[.string ⟨#[]⟩, .bool false] := by rw [ovRes, if_neg h0, if_neg (by rw [hs]; decide)]
      rw [hR]
      obtain ⟨d, h1, h2, h3, h4⟩ := sameSz_not hs
      exact rOverlay_diff p cap _ d ts w h1 h2 hts (hk 0 hl) h4 h3 (hk d h2) hp
end Go.Proofs.YtmfhpddeclggfaaGreatDoor
