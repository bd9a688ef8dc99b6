import Derived.Test.YtmfhpddeclggfaaGreatDoorRsh
import Derived.Test.YtmfhpddeclggfaaGreatDoorRCheckLine
import Derived.WalkKit
import Derived.LoopTactic
import Derived.WalkSpells
import Derived.WalkLawsBesides
import Derived.Lib.Hide
import Derived.BigQuiet
import Derived.IntWalk
import Derived.Deep.DeepMust
import Derived.WalkSmall
import Derived.StillTailTactics
import Derived.Deep.RegionLaw
import Derived.Deep.QuietTactic
import Derived.Deep.Cut
import Derived.Deep.DeepCutAuto
import Derived.Deep.LoopGhost
import Derived.Laws.AppendOwn
namespace Go.Proofs.YtmfhpddeclggfaaGreatDoor
open Go.RowKit
/-- What the reference's shaped returns. -/
def ShR (s : ByteArray) (w : World) (e : Ending) (w' : World) : Prop := Below w.heap.size w w' ∧ ((e = .returned (.tuple #[.agg #[.int .i64 0, .slice none 0 0], .bool false]) ∧ ∀ n ws, ¬ Shp s n ws) ∨
  ∃ (n : Int) (ws : List ByteArray) (q : Option Addr) (c : Nat), e = .returned (.tuple #[.agg #[.int .i64 n, .slice q ws.length c], .bool true]) ∧ Shp s n ws ∧ StrsAt w' q ws ∧ PFrom w.heap.size q)
theorem ShR.no {s : ByteArray} {w w' : World} (hb : Below w.heap.size w w') (h : ∀ n ws, ¬ Shp s n ws) : ShR s w (.returned (.tuple #[.agg #[.int .i64 0, .slice none 0 0], .bool false])) w' := ⟨hb, .inl ⟨rfl, h⟩⟩
theorem ShR.yes {s : ByteArray} {w w' : World} {n : Int} {ws : List ByteArray} {q : Option Addr} {c : Nat} (hb : Below w.heap.size w w') (h : Shp s n ws) (hq : StrsAt w' q ws) (hf : PFrom w.heap.size q) : ShR s w (.returned (.tuple #[.agg #[.int .i64 n, .slice q ws.length c], .bool true])) w' := ⟨hb, .inr ⟨n, ws, q, c, rfl, h, hq, hf⟩⟩
set_option maxRecDepth 100000 in
set_option maxHeartbeats 4000000 in
theorem shaped_bad (s : ByteArray) (w : World) (hs : s.size ≤ 1000000) (h : s.size < 5 ∨ s.data.toList[0]? ≠ some 64 ∨ s.data.toList[s.size - 5]? ≠ some 32) : Calls Tryz.prog 95 #[.string s] w (ShR s w) := by
  have HNO : Hid (∀ n ws, ¬ Shp s n ws) := fun n ws hS => by
    obtain ⟨a, b, c, -⟩ := shp_parts hS
    rcases h with h | h | h
    · omega
    · exact h b
    · exact h c
  have Z := Lib.hid (ZC.mk0 w)
  have c0 := Z.out.c0
  have c1 := Z.out.c1
  have f0 := Z.out.f0
  have f1 := Z.out.f1
  by_cases h1 : (s.size : Int) < 5
  · clear h
    go_enter Tryz.func95, Tryz.ntmps95
    go_wp2_with fail
    refine bodyPost_ret (v := .tuple #[.agg #[.int .i64 0, .slice none 0 0], .bool false]) (by simp [results, Tryz.results95, go_sem]) rfl (ShR.no Z.out.bel HNO.out)
  · have h5 : 5 ≤ s.size := by omega
    have h00 : 0 < s.size := by omega
    by_cases h2 : s[0] = 64
    · have h3 : s[s.size - 5] ≠ 32 := by
        intro e
        rcases h with h | h | h
        · omega
        · exact h (by rw [at_list s 0 h00, h2])
        · exact h (by rw [at_list s (s.size - 5) (by omega), e])
      have e0 : ((s[0].toNat : Int) == 64) = true := by rw [h2]; rfl
      have e0' : ((s[0].toNat : Int) != 64) = false := by rw [h2]; rfl
      have e1 : ((s[s.size - 5].toNat : Int) == 32) = false := by rw [beq_eq_false_iff_ne]; exact fun e => h3 (u8_eq (by simpa using (by omega : s[s.size - 5].toNat = 32)))
      have e1' : ((s[s.size - 5].toNat : Int) != 32) = true := by rw [bne, e1]; rfl
      have g1 : ((s.size : Int) - 5).toNat = s.size - 5 := by omega
      have g2 : (s.size : Int) - 5 < (s.size : Int) := by omega
      have g3 : (0 : Int) ≤ (s.size : Int) - 5 := by omega
      clear h h2 h3
      go_enter Tryz.func95, Tryz.ntmps95
      go_wp2_with fail
      refine bodyPost_ret (v := .tuple #[.agg #[.int .i64 0, .slice none 0 0], .bool false]) (by simp [results, Tryz.results95, go_sem]) rfl (ShR.no Z.out.bel HNO.out)
    · have e0 : ((s[0].toNat : Int) == 64) = false := by rw [beq_eq_false_iff_ne]; exact fun e => h2 (u8_eq (by simpa using (by omega : s[0].toNat = 64)))
      have e0' : ((s[0].toNat : Int) != 64) = true := by rw [bne, e0]; rfl
      clear h h2
      go_enter Tryz.func95, Tryz.ntmps95
      go_wp2_with fail
      refine bodyPost_ret (v := .tuple #[.agg #[.int .i64 0, .slice none 0 0], .bool false]) (by simp [results, Tryz.results95, go_sem]) rfl (ShR.no Z.out.bel HNO.out)
theorem spL_len (c : UInt8) : ∀ (l : List UInt8), ∀ p ∈ spL c l, p.length ≤ l.length
  | [], p, h => by simp [spL] at h; simp [h]
  | x :: l, p, h => by
    unfold spL at h
    have ih := spL_len c l
    by_cases hx : x = c
    · rw [if_pos hx] at h
      rcases List.mem_cons.1 h with rfl | h
      · simp
      · have := ih p h; simp; omega
    · rw [if_neg hx] at h
      cases hs : spL c l with
      | nil => rw [hs] at h; simp at h; simp [h]
      | cons q qs =>
        rw [hs] at h ih
        rcases List.mem_cons.1 h with rfl | h
        · have := ih q List.mem_cons_self; simp; omega
        · have := ih p (List.mem_cons_of_mem _ h); simp; omega
theorem own_from {W : World} {B : Nat} {q : Option Addr} {n k cap : Nat} {xs : List Value} (h : W.ownsRow B 9 1 (.slice q n cap) k xs) : PFrom B q := by
  intro a ha
  obtain ⟨-, ⟨h3, -⟩ | ⟨g, cap', cur, h3, hg, -⟩⟩ := h
  · injection h3 with e1 e2 e3; rw [e1] at ha; cases ha
  · injection h3 with e1 e2 e3; rw [e1] at ha; cases ha; exact hg
theorem pf_some {B b o : Nat} (h : B ≤ b) : PFrom B (some ⟨b, o, none⟩) := fun a e => by cases e; exact h
theorem strs_own2 {W : World} {B : Nat} {v : Value} {l : List ByteArray} (h : W.ownsRow B 9 1 v l.length (strsV l)) : ∃ q cap, v = .slice q l.length cap ∧ StrsAt W q l ∧ l.length ≤ cap ∧ cap ≤ maxLen := by
  obtain ⟨q, cap, e, hst⟩ := strs_own h
  refine ⟨q, cap, e, hst, ?_⟩
  obtain ⟨h1, ⟨h3, h2⟩ | ⟨g, cap', cur, h3, hg, hc, h4, h5, h6⟩⟩ := h
  · rw [e] at h3; injection h3 with e1 e2 e3; rw [h2, e3]; exact ⟨Nat.le_refl _, Nat.zero_le _⟩
  · rw [e] at h3; injection h3 with e1 e2 e3; rw [e3]; exact ⟨h4, h5⟩
theorem rdn_pair (s : ByteArray) : ∃ a e, Hid (rdNum s.data.toList = .agg #[.int .i64 a, .int .i64 e]) ∧ Hid (e = 0 → I64 a ∧ bs (Lib.itoa a) = s) ∧ Hid (∀ n : Int, I64 n → s = bs (Lib.itoa n) → e = 0 ∧ a = n) := by
  cases h : rdInt s.data.toList with
  | none =>
    refine ⟨0, 7, by unfold Hid rdNum; rw [h]; rfl, fun e => absurd e (by decide), fun n hn e => ?_⟩
    rw [e, bs_list, rdInt_itoa n hn.1 hn.2] at h
    cases h
  | some a =>
    obtain ⟨h1, h2, h3⟩ := rdInt_some h
    refine ⟨a, 0, by unfold Hid rdNum; rw [h]; rfl, fun _ => ⟨⟨h2, h3⟩, by rw [h1]; rfl⟩, fun n hn e => ?_⟩
    rw [e, bs_list, rdInt_itoa n hn.1 hn.2] at h
    exact ⟨rfl, (Option.some.inj h).symm⟩
theorem strs_set {W : World} {q : Option Addr} {vs : List ByteArray} {B : Nat} (h : StrsAt W q vs) (c0 : W.cell? ⟨B, 0, none⟩ = some (.int .i64 0)) (c1 : W.cell? ⟨B, 1, none⟩ = some (.slice none 0 0)) (x y : Value) : StrsAt ((W.setCell ⟨B, 0, none⟩ x).setCell ⟨B, 1, none⟩ y) q vs := by
  rcases h with h | ⟨b, o, e, hl, hc⟩
  · exact .inl h
  · refine .inr ⟨b, o, e, by simpa using hl, fun j hj => ?_⟩
    have hj2 := hc j hj
    have n0 : (⟨B, 0, none⟩ : Addr) ≠ ⟨b, o + j, none⟩ := fun e => by rw [← e, c0] at hj2; simp at hj2
    have n1 : (⟨B, 1, none⟩ : Addr) ≠ ⟨b, o + j, none⟩ := fun e => by rw [← e, c1] at hj2; simp at hj2
    rw [World.cell?_setCell_other _ _ _ _ n1, World.cell?_setCell_other _ _ _ _ n0]
    exact hj2
/-- What stands behind the line that the reference has taken. -/
structure RQ (w W : World) (g5 g6 g7 : Nat) (a0 r0 a1 r1 : Int) (q5 : Option Addr) (N c5 : Nat) (vs : List ByteArray) : Prop where
  z : ZC w W
  a : K2 W g5 (.int .i64 a0) (.int .i64 r0)
  b : K2 W g6 (.int .i64 a1) (.int .i64 r1)
  l : K2 W g7 (.int .i64 a0) (.slice q5 N c5)
  st : StrsAt W q5 vs
theorem rq_mk {w W3 : World} {g5 g6 : Nat} {a0 r0 a1 r1 : Int} {N : Nat} {vs : List ByteArray} (q5 : Option Addr) (c5 : Nat) (z : ZC w W3) (a : K2 W3 g5 (.int .i64 a0) (.int .i64 r0)) (b : K2 W3 g6 (.int .i64 a1) (.int .i64 r1)) (st : StrsAt W3 q5 vs) :
    RQ w (W3.alloc (.cells #[.int .i64 a0, .slice q5 N c5] 39)).drew g5 g6 W3.heap.size a0 r0 a1 r1 q5 N c5 vs := by
  have hb : Below W3.heap.size W3 (W3.alloc (.cells #[.int .i64 a0, .slice q5 N c5] 39)).drew := (below_alloc1 _ _).drew
  exact ⟨z.next hb, a.keep hb, b.keep hb, K2.new W3 _ _ 39, st.below hb⟩
set_option maxRecDepth 100000 in
set_option maxHeartbeats 8000000 in
theorem shaped_good (s : ByteArray) (w : World) (hs : s.size ≤ 1000000) (h5 : 5 ≤ s.size) (h0 : s.data.toList[0]? = some 64) (h32 : s.data.toList[s.size - 5]? = some 32) : Calls Tryz.prog 95 #[.string s] w (ShR s w) := by
  have HS := Lib.hid hs
  have H5 := Lib.hid h5
  have H0 := Lib.hid h0
  have H32 := Lib.hid h32
  have h00 : 0 < s.size := by omega
  have Z := Lib.hid (ZC.mk0 w)
  have h2 : s[0] = 64 := by rw [at_list s 0 h00] at h0; exact Option.some.inj h0
  have h3 : s[s.size - 5] = 32 := by rw [at_list s (s.size - 5) (by omega)] at h32; exact Option.some.inj h32
  have e0 : ((s[0].toNat : Int) == 64) = true := by rw [h2]; rfl
  have e0' : ((s[0].toNat : Int) != 64) = false := by rw [h2]; rfl
  have e1 : ((s[s.size - 5].toNat : Int) == 32) = true := by rw [h3]; rfl
  have e1' : ((s[s.size - 5].toNat : Int) != 32) = false := by rw [h3]; rfl
  have g1 : ((s.size : Int) - 5).toNat = s.size - 5 := by omega
  have g2 : (s.size : Int) - 5 < (s.size : Int) := by omega
  have g3 : (0 : Int) ≤ (s.size : Int) - 5 := by omega
  have h15 : (1 : Int) ≤ (s.size : Int) - 5 := by
    by_cases h6 : s.size = 5
    · rw [h6] at h32
      rw [h0] at h32
      exact absurd (Option.some.inj h32) (by decide)
    · omega
  have hmz : (midOf s).size ≤ 1000000 := by unfold midOf; rw [ByteArray.size_extract]; omega
  obtain ⟨M, hM⟩ : ∃ M, s.extract 1 (s.size - 5) = M := ⟨_, rfl⟩
  have SP := rSplit M 32 (w.alloc (.cells #[.int .i64 0, .slice none 0 0] 39)) (by rw [← hM]; exact hmz)
  have HM : Hid (midOf s = M) := hM
  have DSP := Lib.hid SP
  clear h0 h32 h2 h3 hmz SP
  go_enter Tryz.func95, Tryz.ntmps95
  go_wp2_with fail
  refine DSP.out.mono ?_
  rintro e w1 ⟨ps, v, rfl, hown, hb, hps⟩
  have hne : ps ≠ [] := fun e => by
    have := hps.out
    rw [e] at this
    exact spL_ne _ _ this.symm
  obtain ⟨q, cap, rfl, hst, hcap, hcm⟩ := strs_own2 hown
  have HPF := Lib.hid (own_from hown)
  have Z1 := Lib.hid (Z.out.next hb)
  have c0 := Z1.out.c0
  have c1 := Z1.out.c1
  have f0 := Z1.out.f0
  have f1 := Z1.out.f1
  clear DSP hown hb
  have HPS : Hid (ps.map (·.data.toList) = spL 32 (midOf s).data.toList) := by rw [HM.out]; exact hps.out
  clear hps
  match ps, hne, HPS, hst, hcap with
  | [p0], _, HPS, hst, _ =>
    have HNO : Hid (∀ n ws, ¬ Shp s n ws) := fun n ws hS => by
      obtain ⟨-, -, -, d⟩ := shp_parts hS
      exact absurd (d _ HPS.out) (by simp)
    clear hst HPS
    go_wp2_with fail
    refine bodyPost_ret (v := .tuple #[.agg #[.int .i64 0, .slice none 0 0], .bool false]) (by simp [results, Tryz.results95, go_sem, c0, c1]) rfl (ShR.no ?_ HNO.out)
    first | exact Z1.out.bel | exact Z1.out.set _ _
  | p0 :: p1 :: vs, _, HPS, hst, hcap =>
    obtain ⟨b, o, rfl, hbl, cc0⟩ := str_at hst (k := 0) (by simp)
    obtain ⟨b2, o2, e2, -, cc1⟩ := str_at hst (k := 1) (by simp)
    cases e2
    have HBF : Hid (w.heap.size ≤ b) := by
      have := HPF.out _ rfl
      rw [World.size_alloc] at this
      unfold Hid; exact Nat.le_trans (Nat.le_succ _) this
    have hsz : ∀ x ∈ p0 :: p1 :: vs, x.size ≤ 1000000 := fun x hx => by
      have h7 : x.data.toList ∈ spL 32 (midOf s).data.toList := by rw [← HPS.out]; exact List.mem_map.2 ⟨x, hx, rfl⟩
      have h8 := spL_len 32 _ _ h7
      rw [← Lib.size_eq, ← Lib.size_eq] at h8
      have h9 : (midOf s).size ≤ s.size := by unfold midOf; rw [ByteArray.size_extract]; omega
      have := HS.out
      omega
    have HVZ : Hid (∀ j, (vs.getD j ByteArray.empty).size ≤ maxLen) := fun j => by
      rw [List.getD]
      cases hj : vs[j]? with
      | none => exact Nat.zero_le _
      | some x => have := hsz x (List.mem_cons_of_mem _ (List.mem_cons_of_mem _ (List.mem_of_getElem? hj))); show x.size ≤ maxLen; unfold maxLen; omega
    have hz0 := hsz p0 List.mem_cons_self
    have hz1 := hsz p1 (List.mem_cons_of_mem _ List.mem_cons_self)
    obtain ⟨a0, r0, P0, I0, J0⟩ := rdn_pair p0
    obtain ⟨a1, r1, P1, I1, J1⟩ := rdn_pair p1
    have R0 : Hid (∀ W, Calls Tryz.prog 21 #[.string p0] W fun e w' => e = .returned (.agg #[.int .i64 a0, .int .i64 r0]) ∧ Below W.heap.size W w') := fun W => by
      have := rReadInt p0 W (by unfold maxLen; omega); rwa [P0.out] at this
    have R1 : Hid (∀ W, Calls Tryz.prog 21 #[.string p1] W fun e w' => e = .returned (.agg #[.int .i64 a1, .int .i64 r1]) ∧ Below W.heap.size W w') := fun W => by
      have := rReadInt p1 W (by unfold maxLen; omega); rwa [P1.out] at this
    have HNO : Hid (¬ (r0 = 0 ∧ r1 = 0 ∧ a1 = vs.length ∧ lineErr a0 vs = 0) → ∀ n ws, ¬ Shp s n ws) := fun hh n ws hS => by
      obtain ⟨-, -, -, d⟩ := shp_parts hS
      have e := d _ HPS.out
      simp only [List.cons.injEq] at e
      obtain ⟨x1, x2, x3⟩ := e
      obtain ⟨n1, n2, nl, -⟩ := lineErr_ok hS.1
      obtain ⟨y1, y2⟩ := J0.out n (by unfold I64; omega) x1
      obtain ⟨y3, y4⟩ := J1.out ws.length (by unfold I64; omega) x2
      exact hh ⟨y1, y3, by rw [y4, x3], by rw [y2, x3]; exact hS.1⟩
    have HYES : Hid (r0 = 0 → r1 = 0 → a1 = vs.length → lineErr a0 vs = 0 → Shp s a0 vs) := fun q1 q2 q3 q4 =>
      shp_mk H5.out H0.out H32.out HPS.out (I0.out q1).2 (I1.out q2).2 q3 q4
    have hstv : StrsAt w1 (if cap = 2 then none else some ⟨b, o + 2, none⟩) vs := by
      by_cases hc : cap = 2
      · left
        have : vs.length = 0 := by simp at hcap; omega
        exact List.length_eq_zero_iff.1 this
      · rw [if_neg hc]
        refine .inr ⟨b, o + 2, rfl, hbl, fun j hj => ?_⟩
        obtain ⟨b3, o3, e3, -, cj⟩ := str_at hst (k := j + 2) (by simp; omega)
        cases e3
        rw [show o + 2 + j = o + (j + 2) from by omega]
        exact cj
    have HSTV : Hid (StrsAt w1 (some ⟨b, o + 2, none⟩) vs ∨ vs = []) := by
      by_cases hc : cap = 2
      · right
        have : vs.length = 0 := by simp at hcap; omega
        exact List.length_eq_zero_iff.1 this
      · left; rwa [if_neg hc] at hstv
    obtain ⟨N, hN⟩ : ∃ N, Hid (vs.length = N) := ⟨_, rfl⟩
    have hcap2 : N + 2 ≤ cap := by have := hN.out; simp at hcap; omega
    have hN0 : ¬ ((N + 2 : Nat) : Int) < 2 := by omega
    have HBL := Lib.hid hbl
    rw [show (p0 :: p1 :: vs).length = N + 2 from by simp [hN.out]]
    rw [show (p0 :: p1 :: vs).getD 0 ByteArray.empty = p0 from rfl, Nat.add_zero] at cc0
    rw [show (p0 :: p1 :: vs).getD 1 ByteArray.empty = p1 from rfl] at cc1
    have HC0 := Lib.hid cc0
    have HC1 := Lib.hid cc1
    clear hst hstv hsz hz0 hz1 P0 P1 hcap hbl cc1
    go_wp2_with fail
    refine (R0.out w1).mono ?_
    rintro e w2 ⟨rfl, hb⟩
    have hbl2 : b < w2.heap.size := Nat.lt_of_lt_of_le HBL.out hb.size
    have Z2 := Lib.hid ((Z1.out.next hb).next (below_alloc1 w2 (.cells #[.int .i64 a0, .int .i64 r0] 27)))
    have A2 := Lib.hid (K2.new w2 (.int .i64 a0) (.int .i64 r0) 27)
    have cc1 : (w2.alloc (.cells #[.int .i64 a0, .int .i64 r0] 27)).cell? ⟨b, o + 1, none⟩ = some (.string p1) := cell_al ((hb.cell (p := ⟨b, o + 1, none⟩) HBL.out).trans HC1.out) _
    have HB2 : Hid (Below w1.heap.size w1 (w2.alloc (.cells #[.int .i64 a0, .int .i64 r0] 27))) := hb.alloc hb.size _
    clear hb R0 cc0 c0 c1 f0 f1
    go_wp2_with fail
    refine (R1.out _).mono ?_
    rintro e w3 ⟨rfl, hb⟩
    have Z3 := Lib.hid ((Z2.out.next hb).next (below_alloc1 w3 (.cells #[.int .i64 a1, .int .i64 r1] 27)))
    have A3 := Lib.hid ((A2.out.keep hb).keep (below_alloc1 w3 (.cells #[.int .i64 a1, .int .i64 r1] 27)))
    have B3 := Lib.hid (K2.new w3 (.int .i64 a1) (.int .i64 r1) 27)
    have HB3 : Hid (Below w1.heap.size w1 (w3.alloc (.cells #[.int .i64 a1, .int .i64 r1] 27))) := (HB2.out.trans (hb.mono HB2.out.size)).alloc (by have := HB2.out.size; have := hb.size; omega) _
    obtain ⟨W3, hW3⟩ : ∃ W3, w3.alloc (.cells #[.int .i64 a1, .int .i64 r1] 27) = W3 := ⟨_, rfl⟩
    have hz3 : W3.heap.size = w3.heap.size + 1 := by rw [← hW3]; simp
    obtain ⟨g5, hg5⟩ : ∃ g5, w2.heap.size = g5 := ⟨_, rfl⟩
    obtain ⟨g6, hg6⟩ : ∃ g6, w3.heap.size = g6 := ⟨_, rfl⟩
    rw [hW3] at Z3 A3 B3 HB3
    rw [hg5] at A3
    rw [hg6] at B3
    have k0 := A3.out.2.1
    have k0a := cell_al k0 (.cells #[.int .i64 0, .slice none 0 0] 39)
    clear hb R1 cc1 Z2 A2 HB2
    go_upto_region 8 with (fail)
    clear hW3 hg5 hg6 hz3
    have HBW : Hid (∀ q5, StrsAt w1 q5 vs → StrsAt W3 q5 vs) := fun q5 h => h.below HB3.out
    go_cut [7] from 43 (fun s7 wx => ∃ (g7 : Nat) (q5 : Option Addr) (c5 : Nat), s7 = .pointer (some ⟨g7, 0, none⟩) ∧ Hid (RQ w wx g5 g6 g7 a0 r0 a1 r1 q5 N c5 vs) ∧ Hid (PFrom w.heap.size q5))
    case first =>
      by_cases hc : cap = 2
      · have hvs : vs = [] := by
          have := hN.out
          exact List.length_eq_zero_iff.1 (by omega)
        have hst2 : Hid (∀ q5, StrsAt W3 q5 vs) := fun q5 => .inl hvs
        obtain rfl : N = 0 := by omega
        subst hc
        clear hvs
        go_region
        all_goals
          go_wp2_with fail
          go_meet
          case rel => exact ⟨_, _, _, rfl, rq_mk _ _ Z3.out A3.out B3.out (hst2.out _), pf_some HBF.out⟩
      · have hst2 : Hid (StrsAt W3 (some ⟨b, o + 2, none⟩) vs) := by
          rcases HSTV.out with h | h
          · exact HBW.out _ h
          · exact .inl h
        have hc2 : ¬ cap - 2 = 0 := by omega
        go_region
        all_goals
          go_wp2_with fail
          go_meet
          case rel => exact ⟨_, _, _, rfl, rq_mk _ _ Z3.out A3.out B3.out hst2.out, pf_some HBF.out⟩
    case rest =>
      obtain ⟨g7, q5, c5, rfl, R, PF⟩ := hcut
      have c0 := R.out.z.c0
      have c1 := R.out.z.c1
      have f0 := R.out.z.f0
      have f1 := R.out.z.f1
      have RZ := Lib.hid R.out.z
      have y1 := R.out.a.2.2
      have y2 := R.out.b.2.1
      have y3 := R.out.b.2.2
      have y4 := R.out.l.2.1
      have y5 := R.out.l.2.2
      have RL := Lib.hid R.out.l
      have RS := Lib.hid R.out.st
      clear R Z3 A3 B3 k0 k0a HSTV HBW Z1
      by_cases q1 : r0 = 0
      · by_cases q2 : r1 = 0
        · by_cases q3 : a1 = N
          · have CL := rCheckLine a0 q5 c5 vs wc (by have := hN.out; unfold maxLen at hcm ⊢; omega) HVZ.out RS.out
            obtain ⟨er, her⟩ : ∃ er, Hid (lineErr a0 vs = er) := ⟨_, rfl⟩
            rw [her.out, hN.out] at CL
            have DCL := Lib.hid CL
            have HY2 : Hid (er = 0 → Shp s a0 vs) := fun e => HYES.out q1 q2 (by rw [q3, hN.out]) (by rw [her.out]; exact e)
            have HN2 : Hid (¬ er = 0 → ∀ n ws, ¬ Shp s n ws) := fun e => HNO.out (fun h => e (by rw [← her.out]; exact h.2.2.2))
            subst q1 q2 q3
            clear CL HYES HNO her
            go_wp2_with fail
            refine DCL.out.mono ?_
            rintro e w5 ⟨rfl, hb⟩
            have RZ2 := Lib.hid (RZ.out.next hb)
            have RL2 := Lib.hid (RL.out.keep hb)
            have RS2 := Lib.hid (RS.out.below hb)
            have c0 := RZ2.out.c0
            have c1 := RZ2.out.c1
            have f0 := RZ2.out.f0
            have f1 := RZ2.out.f1
            have y4 := RL2.out.2.1
            have y5 := RL2.out.2.2
            clear DCL hb RZ RL RS
            by_cases q4 : er = 0
            · have HY3 := Lib.hid (HY2.out q4)
              subst q4
              clear HY2 HN2
              go_wp2_with fail
              have fin := ShR.yes (w := w) (c := c5) (RZ2.out.set (.int .i64 a0) (.slice q5 vs.length c5)) HY3.out (strs_set RS2.out c0 c1 (.int .i64 a0) (.slice q5 vs.length c5)) PF.out
              rw [hN.out] at fin
              refine bodyPost_ret (v := .tuple #[.agg #[.int .i64 a0, .slice q5 N c5], .bool true]) (by simp [results, Tryz.results95, go_sem, c0, c1]) rfl fin
            · have HN3 := Lib.hid (HN2.out q4)
              have q5' : ((er : Int) == 0) = false := by rw [beq_eq_false_iff_ne]; exact q4
              have q6' : ((er : Int) != 0) = true := by rw [bne, q5']; rfl
              clear HY2 HN2 q4
              go_wp2_with fail
              refine bodyPost_ret (v := .tuple #[.agg #[.int .i64 0, .slice none 0 0], .bool false]) (by simp [results, Tryz.results95, go_sem, c0, c1]) rfl (ShR.no ?_ HN3.out)
              first | exact RZ2.out.bel | exact RZ2.out.set _ _
          · have HF := Lib.hid (HNO.out (fun h => q3 (by rw [h.2.2.1, hN.out])))
            have q5' : ((a1 : Int) == (N : Int)) = false := by rw [beq_eq_false_iff_ne]; exact q3
            have q6' : ((a1 : Int) != (N : Int)) = true := by rw [bne, q5']; rfl
            subst q1 q2
            clear HNO HYES q3
            go_wp2_with fail
            refine bodyPost_ret (v := .tuple #[.agg #[.int .i64 0, .slice none 0 0], .bool false]) (by simp [results, Tryz.results95, go_sem, c0, c1]) rfl (ShR.no ?_ HF.out)
            first | exact RZ.out.bel | exact RZ.out.set _ _
        · have HF := Lib.hid (HNO.out (fun h => q2 h.2.1))
          have q5' : ((r1 : Int) == 0) = false := by rw [beq_eq_false_iff_ne]; exact q2
          have q6' : ((r1 : Int) != 0) = true := by rw [bne, q5']; rfl
          subst q1
          clear HNO HYES q2
          go_wp2_with fail
          refine bodyPost_ret (v := .tuple #[.agg #[.int .i64 0, .slice none 0 0], .bool false]) (by simp [results, Tryz.results95, go_sem, c0, c1]) rfl (ShR.no ?_ HF.out)
          first | exact RZ.out.bel | exact RZ.out.set _ _
      · have HF := Lib.hid (HNO.out (fun h => q1 h.1))
        have q5' : ((r0 : Int) == 0) = false := by rw [beq_eq_false_iff_ne]; exact q1
        have q6' : ((r0 : Int) != 0) = true := by rw [bne, q5']; rfl
        clear HNO HYES q1
        go_wp2_with fail
        refine bodyPost_ret (v := .tuple #[.agg #[.int .i64 0, .slice none 0 0], .bool false]) (by simp [results, Tryz.results95, go_sem, c0, c1]) rfl (ShR.no ?_ HF.out)
        first | exact RZ.out.bel | exact RZ.out.set _ _
theorem rShaped (s : ByteArray) (w : World) (hs : s.size ≤ 1000000) : Calls Tryz.prog 95 #[.string s] w (ShR s w) := by
  by_cases h : s.size < 5 ∨ s.data.toList[0]? ≠ some 64 ∨ s.data.toList[s.size - 5]? ≠ some 32
  · exact shaped_bad s w hs h
  · simp only [not_or, Decidable.not_not, ne_eq] at h
    exact shaped_good s w hs (by omega) h.2.1 h.2.2
end Go.Proofs.YtmfhpddeclggfaaGreatDoor
