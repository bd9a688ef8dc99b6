import Derived.Test.YtcejmfgbfdhflaaGreatFc
import Derived.Test.YtcejmfgbfdhflaaGreatFe
import Derived.WalkKit
import Derived.LoopTactic
import Derived.WalkSpells
import Derived.WalkLawsBesides
import Derived.Lib.Hide
import Derived.BigQuiet
import Derived.IntWalk
import Derived.Deep.DeepMust
import Derived.WalkSmall
import Derived.StillTailTactics
import Derived.Deep.RegionLaw
import Derived.Deep.RegionHeld3
import Derived.Deep.QuietTactic
namespace Go.Proofs.YtcejmfgbfdhflaaGreat
open Go.RowKit Go.BigFrame Go.Sort Go.Shelf
attribute [local go_sem] World.cell?_alloc_some
attribute [local go_sem] Oper.semAt_some
abbrev noWr : Value := .agg #[.int .i64 0, .int .i64 0, .slice none 0 0]
/-- The lengths in all years of a span. -/
def lnL (g : Spl → Int → Int) (x : WA) (c : Ch) (lo hi : Int) : List Int := (yrs lo (hi - lo + 1).toNat).map fun y => g (spO x c y) y
/-- What Shortest and Longest find. -/
structure LnRes (E ch lo : Int) (l : List Int) (B : Nat) (W : World) (v : Value) : Prop where
  no : E ≠ 0 → v = noWr
  ok : E = 0 → ∃ u, v = .agg #[.int .i64 ch, .int .i64 lo, u] ∧ OI W B u l
theorem set3 {n b : Nat} {w W : World} (h : Below n w W) (hb : n ≤ b) (v0 v1 v2 : Value) : Below n w (((W.setCell ⟨b, 0, none⟩ v0).setCell ⟨b, 1, none⟩ v1).setCell ⟨b, 2, none⟩ v2) :=
  (set2 h hb v0 v1).setCell (p := ⟨b, 2, none⟩) hb v2
theorem alE_zero {x : WA} {ch lo hi : Int} (h : alE x ch lo hi = 0) : OkW x ∧ OkC x (chOr x.cs ch) ∧ ((chOr x.cs ch).year ≤ lo ∧ lo ≤ hi ∧ hi ≤ 4000 ∧ 0 ≤ lo ∧ hi - lo + 1 ≤ 400) ∧ badTo (spA x (chOr x.cs ch)) lo hi (tsO x (chOr x.cs ch)).length = false ∧ chk x = 0 ∧ chF x.cs ch = some (chOr x.cs ch) := by
  unfold alE at h
  by_cases h1 : chk x = 0
  · rw [if_neg (by simpa using h1)] at h
    cases h2 : chF x.cs ch with
    | none => rw [h2] at h; simp at h
    | some c =>
      have hc := chOr_some h2
      rw [h2] at h
      rw [if_neg (by simp)] at h
      rw [hc] at h ⊢
      have hw := okW_of h1
      have hkc := okC_of hw h2
      have hk := okCh_iff.1 hkc.ok
      cases h3 : insB lo hi c.year 4000 with
      | false => rw [h3] at h; simp at h
      | true =>
        rw [h3, if_neg (by simp)] at h
        have h4 := insB_iff.1 h3
        by_cases h5 : 400 < hi - lo + 1
        · rw [if_pos h5] at h; cases h
        · rw [if_neg h5] at h
          cases h6 : badTo (spA x c) lo hi (tsO x c).length with
          | true => rw [h6] at h; simp at h
          | false => exact ⟨hw, hkc, ⟨h4.2.1, h4.1, h4.2.2, by omega, by omega⟩, rfl, h1, rfl⟩
  · rw [if_pos h1] at h; exact absurd h h1
theorem OwnFrom.ex {α β : Type} {B : Nat} {I : α → β → World → Prop} (H : ∀ u, OwnFrom B (I u)) : OwnFrom B (fun s W => ∃ u, I u s W) := fun s W W' row h hg hr => by
  obtain ⟨u, h⟩ := h
  exact ⟨u, H u s W W' row h hg hr⟩
theorem cs_ownFrom {β : Type} (B : Nat) (L : β → List (Nat × Nat × Value)) : OwnFrom B (fun s W => Cs W (L s)) := fun _ _ _ _ h hg hr => Cs.own hg (fun r e => (hr r e).2) h
theorem row_ne_lo {W : World} {B e k n : Nat} {v : Value} {xs : List Value} (h : W.ownsRow B e k v n xs) {b : Nat} (hb : b < B) : some b ≠ v.ownBlock := fun e1 => by
  have := ownBlock_lo h e1.symm
  omega
theorem below_row {W0 W W' : World} {n B e k m : Nat} {v : Value} {xs : List Value} (hb : Below n W0 W) (hO : W.ownsRow B e k v m xs) (hB : n ≤ B) (hg : W.grownBy W' v.ownBlock) (hn : n ≤ W.heap.size) : Below n W0 W' :=
  hb.trans ⟨hg.os, hg.tape, hg.output, hg.size, fun k hk => hg.block k (Nat.lt_of_lt_of_le hk hn) (fun e1 => by
    have := ownBlock_lo hO e1.symm
    omega)⟩
theorem KeepsFrom.row {R : Nat} {W W' : World} {B e k m : Nat} {v : Value} {xs : List Value} (hO : W.ownsRow B e k v m xs) (hg : W.grownBy W' v.ownBlock) : KeepsFrom R W W' :=
  ⟨hg.size, fun j o _ hj ho => (hg.block j (Array.getElem?_eq_some_iff.1 hj).1 (fun e1 => by
    obtain ⟨-, ⟨rfl, -⟩ | ⟨g, cap, cur, rfl, -, hc, -⟩⟩ := hO
    · cases e1
    · injection e1 with e2
      subst e2
      rw [hc] at hj
      cases hj
      cases ho)).trans hj⟩
theorem KpR.row {Bs : Nat} {W W' : World} {B e k m : Nat} {v : Value} {xs : List Value} (hO : W.ownsRow B e k v m xs) (hB : Bs < B) (hg : W.grownBy W' v.ownBlock) : KpR Bs W W' := fun o _ h => by
  rw [World.cell?_of_block (a := ⟨Bs, o, none⟩) (hg.block Bs (World.block_lt_of_cell? W _ h) (row_ne_lo hO hB))]; exact h
theorem row_set {W : World} {B e k m : Nat} {v : Value} {xs : List Value} (hO : W.ownsRow B e k v m xs) {b o : Nat} (hB : b < B) (u : Value) : (W.setCell ⟨b, o, none⟩ u).ownsRow B e k v m xs := by
  obtain ⟨h1, h2 | ⟨g, cap, cur, hv, hgb, hc, h3, h4, h5, h6⟩⟩ := hO
  · exact ⟨h1, .inl h2⟩
  · exact ⟨h1, .inr ⟨g, cap, cur, hv, hgb, by rw [(set_grown W b o u).block g (Array.getElem?_eq_some_iff.1 hc).1 (fun e => by injection e with e; omega)]; exact hc, h3, h4, h5, h6⟩⟩
theorem appIat {F : Fence} {m : Nat} {B b : Nat} {v : Value} {l : List Int} {W : World} (hP : OI W B v l) (hw : B ≤ W.heap.size) (x : Int) (hb : W.heap[b]? = some (.cells #[.int .i64 x] 3)) (hl : l.length ≤ 1000000) {ops : Array Oper} {rest : List Oper} {o : Oper} {a : Act} {Q : Exit → Act → World → Prop} (hgd : o.guard = none) (s y : Operand)
    (ho : o.op = .call { callee := .builtin .append, args := #[s, y], argTypes := #[36, 36] }) (hs : a.eval s = v) (hx : a.eval y = .slice (some ⟨b, 0, none⟩) 1 1)
    (h : ∀ v' w', OI w' B v' (l ++ [x]) → W.grownBy w' v.ownBlock → wpListIn F m Tryz.prog ops Q rest (a.put o.dst v') w') : wpListIn F m Tryz.prog ops Q (o :: rest) a W := by
  obtain ⟨i0, hi, hz0, hz1, hz2⟩ := info_parts inf3
  refine wpListIn_append_own _ hgd s y 36 ho B 3 i0 (.int .i64 0) 1 8 Tryz.underlying36 hi hz0 hz1 hz2 rfl (by decide) v l.length (l.map (Value.int .i64)) hs hP ⟨b, 0, none⟩ 1 1 [.int .i64 x] hx rfl ?_ ?_ ?_ ?_ ?_ ?_
  · intro j u hu
    match j, hu with
    | 0, hu =>
      obtain rfl : Value.int .i64 x = u := by simpa using hu
      exact (cs_heap W b _ 3 hb _ 0 rfl).1.2.1
  · intro u hu; obtain rfl : u = .int .i64 x := by simpa using hu
    rfl
  · unfold maxLen; omega
  · omega
  · exact hw
  · intro v' w' ho' hg _
    refine h v' w' ?_ hg
    show w'.ownsRow B 3 1 v' (l ++ [x]).length ((l ++ [x]).map (Value.int .i64))
    rw [List.length_append, List.map_append]; exact ho'
theorem row_mono {W : World} {B B' e k m : Nat} {v : Value} {xs : List Value} (h : W.ownsRow B e k v m xs) (hb : B' ≤ B) : W.ownsRow B' e k v m xs := by
  obtain ⟨h1, h2 | ⟨g, cap, cur, hv, hgb, r⟩⟩ := h
  · exact ⟨h1, .inl h2⟩
  · exact ⟨h1, .inr ⟨g, cap, cur, hv, Nat.le_trans hb hgb, r⟩⟩
set_option maxRecDepth 100000 in
set_option maxHeartbeats 6400000 in
theorem lengths123_no (x : WA) (ch lo hi : Int) (w : World) (h : x.At w) (hE : alE x ch lo hi ≠ 0) :
    Calls Tryz.prog 122 #[x.v, .int .i64 ch, spv lo hi, .func (.func 123) #[] #[]] w fun e w' => (∃ v, e = .returned (.tuple #[v, .int .i64 (alE x ch lo hi)]) ∧ LnRes (alE x ch lo hi) ch lo (lnL lowS x (chOr x.cs ch) lo hi) w.heap.size w' v) ∧ Below w.heap.size w w' := by
  have K1 := fun W (hb : Below w.heap.size w W) => agreedAll_any x ch lo hi W (h.keep hb)
  obtain ⟨E, hEE⟩ : ∃ E, alE x ch lo hi = E := ⟨_, rfl⟩
  rw [hEE] at hE ⊢
  simp only [hEE] at K1
  have K2 : ∀ W, Below w.heap.size w W → Calls Tryz.prog 130 #[x.v, .int .i64 ch, spv lo hi] W fun e w' => e = .returned (.tuple #[.slice none 0 0, .int .i64 E]) ∧ Below W.heap.size W w' := fun W hb => (K1 W hb).mono (by
    rintro e w' ⟨⟨v, rfl, hv⟩, hb2⟩
    exact ⟨by rw [hv.no hE], hb2⟩)
  obtain ⟨L, hL⟩ : ∃ L, lnL lowS x (chOr x.cs ch) lo hi = L := ⟨_, rfl⟩
  rw [hL]
  have HE := Lib.hid hE
  have hb : (E != 0) = true := by simpa using hE
  clear K1 h hEE hL hE
  obtain ⟨cs, ps, rs, q1, q2, q3, c1, c2, c3⟩ := x
  simp only [WA.v] at *
  go_enter Tryz.func122, Tryz.ntmps122
  go_wp2_with fail
  obtain ⟨W0, hW0⟩ : ∃ W0, ((((w).alloc (.cells #[.slice q1 cs.length c1, .slice q2 ps.length c2, .slice q3 rs.length c3] 26)).alloc (.cells #[.int .i64 lo, .int .i64 hi] 30)).alloc (.cells #[.func (.func 123) #[] #[]] 166)).alloc (.cells #[.int .i64 0, .int .i64 0, .slice none 0 0] 58) = W0 := ⟨_, rfl⟩
  have S0 : St w W0 [(w.heap.size + 1 + 1 + 1, 0, .int .i64 0), (w.heap.size + 1 + 1 + 1, 1, .int .i64 0), (w.heap.size + 1 + 1 + 1, 2, .slice none 0 0), (w.heap.size + 1 + 1, 0, .func (.func 123) #[] #[]), (w.heap.size + 1, 0, .int .i64 lo), (w.heap.size + 1, 1, .int .i64 hi), (w.heap.size, 0, .slice q1 cs.length c1), (w.heap.size, 1, .slice q2 ps.length c2), (w.heap.size, 2, .slice q3 rs.length c3)] := by rw [← hW0]; exact (((((St.nil w)).box #[.slice q1 cs.length c1, .slice q2 ps.length c2, .slice q3 rs.length c3] 26 (w.heap.size) (by simp)).box #[.int .i64 lo, .int .i64 hi] 30 (w.heap.size + 1) (by simp)).box #[.func (.func 123) #[] #[]] 166 (w.heap.size + 1 + 1) (by simp)).box #[.int .i64 0, .int .i64 0, .slice none 0 0] 58 (w.heap.size + 1 + 1 + 1) (by simp)
  rw [hW0]
  clear hW0
  obtain ⟨C, hC0, HC, LC, BC, hne⟩ := cls S0
  haveI := hne
  obtain ⟨c0, rfl⟩ : ∃ n : Wd C, W0 = n.w := ⟨⟨_, hC0⟩, rfl⟩
  have fC0 : ∀ n : Wd C, n.w.cell? ⟨w.heap.size + 1 + 1 + 1, 0, none⟩ = some (.int .i64 0) := fun n => (LC.out n).1.2.1
  have zC0 : ∀ n : Wd C, n.w.frozen? ⟨w.heap.size + 1 + 1 + 1, 0, none⟩ = false := fun n => (LC.out n).1.2.2
  have fC1 : ∀ n : Wd C, n.w.cell? ⟨w.heap.size + 1 + 1 + 1, 1, none⟩ = some (.int .i64 0) := fun n => (LC.out n).2.1.2.1
  have zC1 : ∀ n : Wd C, n.w.frozen? ⟨w.heap.size + 1 + 1 + 1, 1, none⟩ = false := fun n => (LC.out n).2.1.2.2
  have fC2 : ∀ n : Wd C, n.w.cell? ⟨w.heap.size + 1 + 1 + 1, 2, none⟩ = some (.slice none 0 0) := fun n => (LC.out n).2.2.1.2.1
  have zC2 : ∀ n : Wd C, n.w.frozen? ⟨w.heap.size + 1 + 1 + 1, 2, none⟩ = false := fun n => (LC.out n).2.2.1.2.2
  have fC3 : ∀ n : Wd C, n.w.cell? ⟨w.heap.size + 1 + 1, 0, none⟩ = some (.func (.func 123) #[] #[]) := fun n => (LC.out n).2.2.2.1.2.1
  have fC4 : ∀ n : Wd C, n.w.cell? ⟨w.heap.size + 1, 0, none⟩ = some (.int .i64 lo) := fun n => (LC.out n).2.2.2.2.1.2.1
  have fC5 : ∀ n : Wd C, n.w.cell? ⟨w.heap.size + 1, 1, none⟩ = some (.int .i64 hi) := fun n => (LC.out n).2.2.2.2.2.1.2.1
  have fC6 : ∀ n : Wd C, n.w.cell? ⟨w.heap.size, 0, none⟩ = some (.slice q1 cs.length c1) := fun n => (LC.out n).2.2.2.2.2.2.1.2.1
  have fC7 : ∀ n : Wd C, n.w.cell? ⟨w.heap.size, 1, none⟩ = some (.slice q2 ps.length c2) := fun n => (LC.out n).2.2.2.2.2.2.2.1.2.1
  have fC8 : ∀ n : Wd C, n.w.cell? ⟨w.heap.size, 2, none⟩ = some (.slice q3 rs.length c3) := fun n => (LC.out n).2.2.2.2.2.2.2.2.1.2.1
  clear S0 hC0
  have D1 := cinL HC BC K2
  clear K2
  go_wp2_with fail
  refine (D1 _).out.mono ?_
  rintro e w' ⟨rfl, m, rfl⟩
  go_upto_region 2 with fail
  obtain ⟨W0, hW0⟩ : ∃ W0, (m.w).alloc (.cells #[.slice none 0 0] 158) = W0 := ⟨_, rfl⟩
  have S0 : St w W0 [(m.w.heap.size, 0, .slice none 0 0), (w.heap.size + 1 + 1 + 1, 0, .int .i64 0), (w.heap.size + 1 + 1 + 1, 1, .int .i64 0), (w.heap.size + 1 + 1 + 1, 2, .slice none 0 0), (w.heap.size + 1 + 1, 0, .func (.func 123) #[] #[]), (w.heap.size + 1, 0, .int .i64 lo), (w.heap.size + 1, 1, .int .i64 hi), (w.heap.size, 0, .slice q1 cs.length c1), (w.heap.size, 1, .slice q2 ps.length c2), (w.heap.size, 2, .slice q3 rs.length c3)] := by rw [← hW0]; exact ((⟨BC.out m, LC.out m⟩ : St w m.w _)).box #[.slice none 0 0] 158 (m.w.heap.size) (by simp)
  rw [hW0]
  clear hW0
  obtain ⟨kD, hkk⟩ : ∃ k, m.w.heap.size = k := ⟨_, rfl⟩
  have gkD : w.heap.size ≤ kD := by rw [← hkk]; exact (BC.out m).size
  rw [hkk] at S0 ⊢
  have eD1 : kD ≠ w.heap.size + 1 + 1 + 1 := by have h := (LC.out m).1.1; omega
  have dD1 : w.heap.size + 1 + 1 + 1 ≠ kD := Ne.symm eD1
  clear hkk
  obtain ⟨D, hC0, HD, LD, BD, hne⟩ := cls S0
  haveI := hne
  obtain ⟨d0, rfl⟩ : ∃ n : Wd D, W0 = n.w := ⟨⟨_, hC0⟩, rfl⟩
  have fD0 : ∀ n : Wd D, n.w.cell? ⟨kD, 0, none⟩ = some (.slice none 0 0) := fun n => (LD.out n).1.2.1
  have fD1 : ∀ n : Wd D, n.w.cell? ⟨w.heap.size + 1 + 1 + 1, 0, none⟩ = some (.int .i64 0) := fun n => (LD.out n).2.1.2.1
  have zD1 : ∀ n : Wd D, n.w.frozen? ⟨w.heap.size + 1 + 1 + 1, 0, none⟩ = false := fun n => (LD.out n).2.1.2.2
  have fD2 : ∀ n : Wd D, n.w.cell? ⟨w.heap.size + 1 + 1 + 1, 1, none⟩ = some (.int .i64 0) := fun n => (LD.out n).2.2.1.2.1
  have zD2 : ∀ n : Wd D, n.w.frozen? ⟨w.heap.size + 1 + 1 + 1, 1, none⟩ = false := fun n => (LD.out n).2.2.1.2.2
  have fD3 : ∀ n : Wd D, n.w.cell? ⟨w.heap.size + 1 + 1 + 1, 2, none⟩ = some (.slice none 0 0) := fun n => (LD.out n).2.2.2.1.2.1
  have zD3 : ∀ n : Wd D, n.w.frozen? ⟨w.heap.size + 1 + 1 + 1, 2, none⟩ = false := fun n => (LD.out n).2.2.2.1.2.2
  have fD4 : ∀ n : Wd D, n.w.cell? ⟨w.heap.size + 1 + 1, 0, none⟩ = some (.func (.func 123) #[] #[]) := fun n => (LD.out n).2.2.2.2.1.2.1
  have fD5 : ∀ n : Wd D, n.w.cell? ⟨w.heap.size + 1, 0, none⟩ = some (.int .i64 lo) := fun n => (LD.out n).2.2.2.2.2.1.2.1
  have fD6 : ∀ n : Wd D, n.w.cell? ⟨w.heap.size + 1, 1, none⟩ = some (.int .i64 hi) := fun n => (LD.out n).2.2.2.2.2.2.1.2.1
  have fD7 : ∀ n : Wd D, n.w.cell? ⟨w.heap.size, 0, none⟩ = some (.slice q1 cs.length c1) := fun n => (LD.out n).2.2.2.2.2.2.2.1.2.1
  have fD8 : ∀ n : Wd D, n.w.cell? ⟨w.heap.size, 1, none⟩ = some (.slice q2 ps.length c2) := fun n => (LD.out n).2.2.2.2.2.2.2.2.1.2.1
  have fD9 : ∀ n : Wd D, n.w.cell? ⟨w.heap.size, 2, none⟩ = some (.slice q3 rs.length c3) := fun n => (LD.out n).2.2.2.2.2.2.2.2.2.1.2.1
  clear S0 hC0
  have hRD : w.heap.size + 3 < d0.w.heap.size := (LD.out d0).2.1.1
  clear D1
  go_wp2_with fail
  refine bodyPost_ret (v := .tuple #[noWr, .int .i64 E]) (by simp [results, Tryz.results122, go_sem, fD1, fD2, fD3]) rfl ?_
  exact ⟨⟨_, rfl, ⟨fun _ => rfl, fun e => absurd e HE.out⟩⟩, set3 (BD.out _) (by omega) _ _ _⟩
--OK
set_option maxRecDepth 100000 in
set_option maxHeartbeats 6400000 in
theorem lengths123_ok (x : WA) (ch lo hi : Int) (w : World) (h : x.At w) (hE : alE x ch lo hi = 0) :
    Calls Tryz.prog 122 #[x.v, .int .i64 ch, spv lo hi, .func (.func 123) #[] #[]] w fun e w' => (∃ v, e = .returned (.tuple #[v, .int .i64 (alE x ch lo hi)]) ∧ LnRes (alE x ch lo hi) ch lo (lnL lowS x (chOr x.cs ch) lo hi) w.heap.size w' v) ∧ Below w.heap.size w w' := by
  have K1 := fun W (hb : Below w.heap.size w W) => agreedAll_any x ch lo hi W (h.keep hb)
  obtain ⟨-, -, HY, -⟩ := alE_zero hE
  obtain ⟨c, hc⟩ : ∃ c, chOr x.cs ch = c := ⟨_, rfl⟩
  rw [hc] at HY
  simp only [hE, hc] at K1
  rw [hE, hc]
  obtain ⟨y1, y2, y3, y4, y5⟩ := HY
  obtain ⟨X, hX⟩ : ∃ X, x = X := ⟨_, rfl⟩
  have K2 : ∀ W, Below w.heap.size w W → Calls Tryz.prog 130 #[X.v, .int .i64 ch, spv lo hi] W fun e w' => (∃ (G n : Nat), e = .returned (.tuple #[.slice (some ⟨G, 0, none⟩) n n, .int .i64 0]) ∧
      Hid (∀ y, c.year ≤ y → ∀ W2, Below w'.heap.size w' W2 → ∃ sv : SV, sv.s = spO x c y ∧ okS sv.s = true ∧ ThsAt W2 sv.q sv.s.ths ∧ (sv.s.ths.length ≤ sv.cap ∧ sv.cap ≤ maxLen) ∧
        ∀ W', Below W2.heap.size W2 W' → Calls Tryz.prog 137 #[.slice (some ⟨G, 0, none⟩) n n, .int .i64 y] W' fun e w'' => e = .returned sv.v ∧ Below W'.heap.size W' w'')) ∧ Below W.heap.size W w' := fun W hb => by
    rw [← hX]
    refine (K1 W hb).mono ?_
    rintro e w' ⟨⟨v, rfl, hv⟩, hb2⟩
    obtain ⟨G, n, xs, rfl, hn, hn61, hsp⟩ := hv.ok rfl
    exact ⟨⟨G, n, rfl, fun y hy W2 hb3 => sps_spell (hsp.keep hb3) hn hn61 y hy⟩, hb2⟩
  have HL : Hid (∀ y, c.year ≤ y → y ≤ 4000 → True) := fun _ _ _ => trivial
  obtain ⟨S, hS⟩ : ∃ S : Int → Spl, spO x c = S := ⟨_, rfl⟩
  rw [show lnL lowS x c lo hi = (yrs lo (hi - lo + 1).toNat).map (fun y => lowS (S y) y) from by rw [← hS]; rfl]
  simp only [hS] at K2
  rw [show x.v = X.v from by rw [hX]]
  clear K1 h hE hc HL hS hX
  obtain ⟨cs, ps, rs, q1, q2, q3, c1, c2, c3⟩ := X
  obtain ⟨N, hN⟩ : ∃ N, (hi - lo + 1).toNat = N := ⟨_, rfl⟩
  have hN1 : hi = lo + (N : Int) - 1 := by omega
  rw [hN]
  have HN1 := Lib.hid hN1
  clear hN hN1
  simp only [WA.v] at *
  have HK2 := Lib.hid K2
  clear K2
  refine (callsIn_wide (n := 5)).1 ?_
  refine callsIn_of_wp_marks Tryz.func122 rfl trivial ?_ rfl
  simp only [Tryz.ntmps122, List.size_toArray, List.length_cons, List.length_nil, Nat.reduceAdd, Nat.reduceSub, Array.replicate_succ, Array.replicate_zero, List.push_toArray, List.append_toArray, List.nil_append, List.cons_append]
  gi_wp2
  obtain ⟨W0, hW0⟩ : ∃ W0, ((((w).alloc (.cells #[.slice q1 cs.length c1, .slice q2 ps.length c2, .slice q3 rs.length c3] 26)).alloc (.cells #[.int .i64 lo, .int .i64 hi] 30)).alloc (.cells #[.func (.func 123) #[] #[]] 166)).alloc (.cells #[.int .i64 0, .int .i64 0, .slice none 0 0] 58) = W0 := ⟨_, rfl⟩
  have S0 : St w W0 [(w.heap.size + 1 + 1 + 1, 0, .int .i64 0), (w.heap.size + 1 + 1 + 1, 1, .int .i64 0), (w.heap.size + 1 + 1 + 1, 2, .slice none 0 0), (w.heap.size + 1 + 1, 0, .func (.func 123) #[] #[]), (w.heap.size + 1, 0, .int .i64 lo), (w.heap.size + 1, 1, .int .i64 hi), (w.heap.size, 0, .slice q1 cs.length c1), (w.heap.size, 1, .slice q2 ps.length c2), (w.heap.size, 2, .slice q3 rs.length c3)] := by rw [← hW0]; exact (((((St.nil w)).box #[.slice q1 cs.length c1, .slice q2 ps.length c2, .slice q3 rs.length c3] 26 (w.heap.size) (by simp)).box #[.int .i64 lo, .int .i64 hi] 30 (w.heap.size + 1) (by simp)).box #[.func (.func 123) #[] #[]] 166 (w.heap.size + 1 + 1) (by simp)).box #[.int .i64 0, .int .i64 0, .slice none 0 0] 58 (w.heap.size + 1 + 1 + 1) (by simp)
  rw [hW0]
  clear hW0
  obtain ⟨C, hC0, HC, LC, BC, hne⟩ := cls S0
  haveI := hne
  obtain ⟨c0, rfl⟩ : ∃ n : Wd C, W0 = n.w := ⟨⟨_, hC0⟩, rfl⟩
  have fC0 : ∀ n : Wd C, n.w.cell? ⟨w.heap.size + 1 + 1 + 1, 0, none⟩ = some (.int .i64 0) := fun n => (LC.out n).1.2.1
  have zC0 : ∀ n : Wd C, n.w.frozen? ⟨w.heap.size + 1 + 1 + 1, 0, none⟩ = false := fun n => (LC.out n).1.2.2
  have fC1 : ∀ n : Wd C, n.w.cell? ⟨w.heap.size + 1 + 1 + 1, 1, none⟩ = some (.int .i64 0) := fun n => (LC.out n).2.1.2.1
  have zC1 : ∀ n : Wd C, n.w.frozen? ⟨w.heap.size + 1 + 1 + 1, 1, none⟩ = false := fun n => (LC.out n).2.1.2.2
  have fC2 : ∀ n : Wd C, n.w.cell? ⟨w.heap.size + 1 + 1 + 1, 2, none⟩ = some (.slice none 0 0) := fun n => (LC.out n).2.2.1.2.1
  have zC2 : ∀ n : Wd C, n.w.frozen? ⟨w.heap.size + 1 + 1 + 1, 2, none⟩ = false := fun n => (LC.out n).2.2.1.2.2
  have fC3 : ∀ n : Wd C, n.w.cell? ⟨w.heap.size + 1 + 1, 0, none⟩ = some (.func (.func 123) #[] #[]) := fun n => (LC.out n).2.2.2.1.2.1
  have fC4 : ∀ n : Wd C, n.w.cell? ⟨w.heap.size + 1, 0, none⟩ = some (.int .i64 lo) := fun n => (LC.out n).2.2.2.2.1.2.1
  have fC5 : ∀ n : Wd C, n.w.cell? ⟨w.heap.size + 1, 1, none⟩ = some (.int .i64 hi) := fun n => (LC.out n).2.2.2.2.2.1.2.1
  have fC6 : ∀ n : Wd C, n.w.cell? ⟨w.heap.size, 0, none⟩ = some (.slice q1 cs.length c1) := fun n => (LC.out n).2.2.2.2.2.2.1.2.1
  have fC7 : ∀ n : Wd C, n.w.cell? ⟨w.heap.size, 1, none⟩ = some (.slice q2 ps.length c2) := fun n => (LC.out n).2.2.2.2.2.2.2.1.2.1
  have fC8 : ∀ n : Wd C, n.w.cell? ⟨w.heap.size, 2, none⟩ = some (.slice q3 rs.length c3) := fun n => (LC.out n).2.2.2.2.2.2.2.2.1.2.1
  clear S0 hC0
  refine ⟨trivial, ?_⟩
  refine (callsIn_wide.2 (HK2.out _ (BC.out _))).mono ?_
  rintro e w1 ⟨⟨G, nn, rfl, hsp⟩, hb1⟩
  have S1 : St w1 w1 [(w.heap.size + 1 + 1 + 1, 0, .int .i64 0), (w.heap.size + 1 + 1 + 1, 1, .int .i64 0), (w.heap.size + 1 + 1 + 1, 2, .slice none 0 0), (w.heap.size + 1 + 1, 0, .func (.func 123) #[] #[]), (w.heap.size + 1, 0, .int .i64 lo), (w.heap.size + 1, 1, .int .i64 hi), (w.heap.size, 0, .slice q1 cs.length c1), (w.heap.size, 1, .slice q2 ps.length c2), (w.heap.size, 2, .slice q3 rs.length c3)] := ⟨Below.refl _ _, (LC.out _).keep hb1⟩
  have HB1 := Lib.hid ((BC.out _).trans (hb1.mono (BC.out _).size))
  clear hb1 HK2 HC LC BC fC0 fC1 fC2 fC3 fC4 fC5 fC6 fC7 fC8 zC0 zC1 zC2 hne
  obtain ⟨K, hC0, HK, LK, BK, hne⟩ := cls S1
  haveI := hne
  obtain ⟨k0, rfl⟩ : ∃ n : Wd K, w1 = n.w := ⟨⟨_, hC0⟩, rfl⟩
  have fK0 : ∀ n : Wd K, n.w.cell? ⟨w.heap.size + 1 + 1 + 1, 0, none⟩ = some (.int .i64 0) := fun n => (LK.out n).1.2.1
  have fK1 : ∀ n : Wd K, n.w.cell? ⟨w.heap.size + 1 + 1 + 1, 1, none⟩ = some (.int .i64 0) := fun n => (LK.out n).2.1.2.1
  have fK2 : ∀ n : Wd K, n.w.cell? ⟨w.heap.size + 1 + 1 + 1, 2, none⟩ = some (.slice none 0 0) := fun n => (LK.out n).2.2.1.2.1
  have fK3 : ∀ n : Wd K, n.w.cell? ⟨w.heap.size + 1 + 1, 0, none⟩ = some (.func (.func 123) #[] #[]) := fun n => (LK.out n).2.2.2.1.2.1
  have fK4 : ∀ n : Wd K, n.w.cell? ⟨w.heap.size + 1, 0, none⟩ = some (.int .i64 lo) := fun n => (LK.out n).2.2.2.2.1.2.1
  have fK5 : ∀ n : Wd K, n.w.cell? ⟨w.heap.size + 1, 1, none⟩ = some (.int .i64 hi) := fun n => (LK.out n).2.2.2.2.2.1.2.1
  have fK6 : ∀ n : Wd K, n.w.cell? ⟨w.heap.size, 0, none⟩ = some (.slice q1 cs.length c1) := fun n => (LK.out n).2.2.2.2.2.2.1.2.1
  have fK7 : ∀ n : Wd K, n.w.cell? ⟨w.heap.size, 1, none⟩ = some (.slice q2 ps.length c2) := fun n => (LK.out n).2.2.2.2.2.2.2.1.2.1
  have fK8 : ∀ n : Wd K, n.w.cell? ⟨w.heap.size, 2, none⟩ = some (.slice q3 rs.length c3) := fun n => (LK.out n).2.2.2.2.2.2.2.2.1.2.1
  have zK0 : ∀ n : Wd K, n.w.frozen? ⟨w.heap.size + 1 + 1 + 1, 0, none⟩ = false := fun n => (LK.out n).1.2.2
  have zK1 : ∀ n : Wd K, n.w.frozen? ⟨w.heap.size + 1 + 1 + 1, 1, none⟩ = false := fun n => (LK.out n).2.1.2.2
  have zK2 : ∀ n : Wd K, n.w.frozen? ⟨w.heap.size + 1 + 1 + 1, 2, none⟩ = false := fun n => (LK.out n).2.2.1.2.2
  clear S1 hC0
  gi_wp2_with (refine ⟨trivial, ?_⟩; gi_at_call 131; refine (each_in Fence.wide _ trivial rfl _ _ _).mono ?_; rintro e w' ⟨rfl, rfl⟩)
  obtain ⟨W0, hW0⟩ : ∃ W0, (((k0.w).alloc (.cells #[.slice (some ⟨G, 0, none⟩) nn nn] 158)).alloc (.cells #[.int .i64 ch, .int .i64 lo, .slice none 0 0] 58)).alloc (.cells #[.int .i64 lo, .int .i64 hi] 30) = W0 := ⟨_, rfl⟩
  have S0 : St k0.w W0 [(k0.w.heap.size + 1 + 1, 0, .int .i64 lo), (k0.w.heap.size + 1 + 1, 1, .int .i64 hi), (k0.w.heap.size + 1, 0, .int .i64 ch), (k0.w.heap.size + 1, 1, .int .i64 lo), (k0.w.heap.size + 1, 2, .slice none 0 0), (k0.w.heap.size, 0, .slice (some ⟨G, 0, none⟩) nn nn), (w.heap.size + 1 + 1 + 1, 0, .int .i64 0), (w.heap.size + 1 + 1 + 1, 1, .int .i64 0), (w.heap.size + 1 + 1 + 1, 2, .slice none 0 0), (w.heap.size + 1 + 1, 0, .func (.func 123) #[] #[]), (w.heap.size + 1, 0, .int .i64 lo), (w.heap.size + 1, 1, .int .i64 hi), (w.heap.size, 0, .slice q1 cs.length c1), (w.heap.size, 1, .slice q2 ps.length c2), (w.heap.size, 2, .slice q3 rs.length c3)] := by rw [← hW0]; exact ((((⟨BK.out k0, LK.out k0⟩ : St k0.w k0.w _)).box #[.slice (some ⟨G, 0, none⟩) nn nn] 158 (k0.w.heap.size) (by simp)).box #[.int .i64 ch, .int .i64 lo, .slice none 0 0] 58 (k0.w.heap.size + 1) (by simp)).box #[.int .i64 lo, .int .i64 hi] 30 (k0.w.heap.size + 1 + 1) (by simp)
  rw [hW0]
  clear hW0
  obtain ⟨kD, hkk⟩ : ∃ k, k0.w.heap.size = k := ⟨_, rfl⟩
  have gkD : k0.w.heap.size ≤ kD := by rw [← hkk]; exact (BK.out k0).size
  rw [hkk] at S0 ⊢
  have eD1 : kD ≠ w.heap.size + 1 + 1 + 1 := by have h := (LK.out k0).1.1; omega
  have dD1 : w.heap.size + 1 + 1 + 1 ≠ kD := Ne.symm eD1
  clear hkk
  obtain ⟨D, hC0, HD, LD, BD, hne⟩ := cls S0
  haveI := hne
  obtain ⟨d0, rfl⟩ : ∃ n : Wd D, W0 = n.w := ⟨⟨_, hC0⟩, rfl⟩
  have fD0 : ∀ n : Wd D, n.w.cell? ⟨kD + 1 + 1, 0, none⟩ = some (.int .i64 lo) := fun n => (LD.out n).1.2.1
  have fD1 : ∀ n : Wd D, n.w.cell? ⟨kD + 1 + 1, 1, none⟩ = some (.int .i64 hi) := fun n => (LD.out n).2.1.2.1
  have fD2 : ∀ n : Wd D, n.w.cell? ⟨kD + 1, 0, none⟩ = some (.int .i64 ch) := fun n => (LD.out n).2.2.1.2.1
  have fD3 : ∀ n : Wd D, n.w.cell? ⟨kD + 1, 1, none⟩ = some (.int .i64 lo) := fun n => (LD.out n).2.2.2.1.2.1
  have fD4 : ∀ n : Wd D, n.w.cell? ⟨kD + 1, 2, none⟩ = some (.slice none 0 0) := fun n => (LD.out n).2.2.2.2.1.2.1
  have fD5 : ∀ n : Wd D, n.w.cell? ⟨kD, 0, none⟩ = some (.slice (some ⟨G, 0, none⟩) nn nn) := fun n => (LD.out n).2.2.2.2.2.1.2.1
  have fD6 : ∀ n : Wd D, n.w.cell? ⟨w.heap.size + 1 + 1 + 1, 0, none⟩ = some (.int .i64 0) := fun n => (LD.out n).2.2.2.2.2.2.1.2.1
  have zD6 : ∀ n : Wd D, n.w.frozen? ⟨w.heap.size + 1 + 1 + 1, 0, none⟩ = false := fun n => (LD.out n).2.2.2.2.2.2.1.2.2
  have fD7 : ∀ n : Wd D, n.w.cell? ⟨w.heap.size + 1 + 1 + 1, 1, none⟩ = some (.int .i64 0) := fun n => (LD.out n).2.2.2.2.2.2.2.1.2.1
  have zD7 : ∀ n : Wd D, n.w.frozen? ⟨w.heap.size + 1 + 1 + 1, 1, none⟩ = false := fun n => (LD.out n).2.2.2.2.2.2.2.1.2.2
  have fD8 : ∀ n : Wd D, n.w.cell? ⟨w.heap.size + 1 + 1 + 1, 2, none⟩ = some (.slice none 0 0) := fun n => (LD.out n).2.2.2.2.2.2.2.2.1.2.1
  have zD8 : ∀ n : Wd D, n.w.frozen? ⟨w.heap.size + 1 + 1 + 1, 2, none⟩ = false := fun n => (LD.out n).2.2.2.2.2.2.2.2.1.2.2
  have fD9 : ∀ n : Wd D, n.w.cell? ⟨w.heap.size + 1 + 1, 0, none⟩ = some (.func (.func 123) #[] #[]) := fun n => (LD.out n).2.2.2.2.2.2.2.2.2.1.2.1
  have fD10 : ∀ n : Wd D, n.w.cell? ⟨w.heap.size + 1, 0, none⟩ = some (.int .i64 lo) := fun n => (LD.out n).2.2.2.2.2.2.2.2.2.2.1.2.1
  have fD11 : ∀ n : Wd D, n.w.cell? ⟨w.heap.size + 1, 1, none⟩ = some (.int .i64 hi) := fun n => (LD.out n).2.2.2.2.2.2.2.2.2.2.2.1.2.1
  have fD12 : ∀ n : Wd D, n.w.cell? ⟨w.heap.size, 0, none⟩ = some (.slice q1 cs.length c1) := fun n => (LD.out n).2.2.2.2.2.2.2.2.2.2.2.2.1.2.1
  have fD13 : ∀ n : Wd D, n.w.cell? ⟨w.heap.size, 1, none⟩ = some (.slice q2 ps.length c2) := fun n => (LD.out n).2.2.2.2.2.2.2.2.2.2.2.2.2.1.2.1
  have fD14 : ∀ n : Wd D, n.w.cell? ⟨w.heap.size, 2, none⟩ = some (.slice q3 rs.length c3) := fun n => (LD.out n).2.2.2.2.2.2.2.2.2.2.2.2.2.2.1.2.1
  clear S0 hC0
  have hLD := LD.out d0
  have hsz : kD + 1 + 1 < d0.w.heap.size := hLD.1.1
  have hkz : w.heap.size + 1 + 1 + 1 < kD := by have := (LK.out k0).1.1; omega
  have hkk : k0.w.heap.size ≤ kD := gkD
  have hkw : w.heap.size ≤ kD := by omega
  have hB0 : Below w.heap.size w d0.w := HB1.out.trans ((BD.out d0).mono HB1.out.size)
  have hc0 := fD0 d0
  have hc1 := fD1 d0
  have hD1 : Hid (Below k0.w.heap.size k0.w d0.w) := BD.out d0
  obtain ⟨q0, q1', q2', q3', q4', q5', q6', q7', q8', q9', -⟩ := hLD
  clear fD0 fD1 fD2 fD3 fD4 fD5 fD6 fD7 fD8 fD9 fD10 fD11 fD12 fD13 fD14 zD6 zD7 zD8 HD LD BD eD1 dD1
  obtain ⟨W0, hW0⟩ : ∃ W0, d0.w = W0 := ⟨_, rfl⟩
  rw [hW0] at hsz hB0 hc0 hc1 hD1 q0 q1' q2' q3' q4' q5' q6' q7' q8' q9' ⊢
  clear hW0
  refine wpIn_rangeFunc_ownH rfl (by omega) (gf := 185) (lb := #[.pointer (some ⟨kD + 1 + 1, 0, none⟩)]) rfl trivial (enters_of Tryz.func185 (by kernel_rfl) rfl)
    (each_stops Fence.wide 4 trivial rfl (by omega) (kD + 1 + 1) lo N (by omega) (by have := HN1.out; omega) W0 hsz hc0 (by rw [← HN1.out]; exact hc1)) kpR_t (kpR_b hsz) (Below.refl _ _) (fun _ => rfl)
    (fun pre W => (Cs W [(kD, 0, .slice (some ⟨G, 0, none⟩) nn nn), (kD + 1, 0, .int .i64 ch), (kD + 1, 1, .int .i64 lo), (w.heap.size + 1 + 1, 0, .func (.func 123) #[] #[]), (w.heap.size + 1 + 1 + 1, 0, .int .i64 0), (w.heap.size + 1 + 1 + 1, 1, .int .i64 0), (w.heap.size + 1 + 1 + 1, 2, .slice none 0 0)] ∧ ∃ u, Cs W [(kD + 1, 2, u)] ∧ OI W (kD + 3) u (pre.map fun y => lowS (S (lo + (y.1 : Int))) (lo + (y.1 : Int)))) ∧ Below kD W0 W)
    (fun _ _ _ => False)
    (OwnFrom.and (OwnFrom.and (cs_ownFrom _ (fun _ => [(kD, 0, .slice (some ⟨G, 0, none⟩) nn nn), (kD + 1, 0, .int .i64 ch), (kD + 1, 1, .int .i64 lo), (w.heap.size + 1 + 1, 0, .func (.func 123) #[] #[]), (w.heap.size + 1 + 1 + 1, 0, .int .i64 0), (w.heap.size + 1 + 1 + 1, 1, .int .i64 0), (w.heap.size + 1 + 1 + 1, 2, .slice none 0 0)])) (OwnFrom.ex fun u => OwnFrom.and (cs_ownFrom _ (fun _ => [(kD + 1, 2, u)])) (row_ownFrom _ _ _ _ (fun _ => u) _ _))) (ownFrom_below (by omega) (by omega)))
    (fun _ _ _ _ _ hs _ _ => hs)
    ⟨⟨⟨q5', q2', q3', q9', q6', q7', q8', trivial⟩, _, ⟨q4', trivial⟩, World.ownsRow_nil _ _ _ _⟩, Below.refl _ _⟩
    (fun x a' W => a' = { tmps := #[Value.agg #[Value.slice q1 cs.length c1, Value.slice q2 ps.length c2, Value.slice q3 rs.length c3], Value.int IntKind.i64 ch, spv lo hi, Value.func (Fn.func 123) #[] #[], Value.pointer (some { block := w.heap.size, off := 0 }), undef, Value.pointer (some { block := w.heap.size + 1, off := 0 }), Value.pointer (some { block := w.heap.size + 1 + 1, off := 0 }), Value.pointer (some { block := w.heap.size + 1 + 1 + 1, off := 0 }), Value.int IntKind.i64 0, Value.pointer (some { block := kD, off := 0 }), Value.int IntKind.i64 0, Value.pointer (some { block := kD + 1, off := 0 }), .int .i64 (lo + (x.1 : Int)), Value.tuple #[Value.slice (some { block := G, off := 0 }) nn nn, Value.int IntKind.i64 0], Value.agg #[Value.slice q1 cs.length c1, Value.slice q2 ps.length c2, Value.slice q3 rs.length c3], Value.int IntKind.i64 ch, Value.agg #[Value.int IntKind.i64 lo, Value.int IntKind.i64 hi], Value.tuple #[Value.slice (some { block := G, off := 0 }) nn nn, Value.int IntKind.i64 0], Value.slice (some { block := G, off := 0 }) nn nn, Value.int IntKind.i64 0, Value.int IntKind.i64 0, Value.bool false, undef, undef, Value.int IntKind.i64 ch, Value.pointer (some { block := w.heap.size + 1, off := 0 }), Value.int IntKind.i64 lo, Value.agg #[Value.int IntKind.i64 ch, Value.int IntKind.i64 lo, Value.slice none 0 0], Value.agg #[Value.int IntKind.i64 lo, Value.int IntKind.i64 hi], Value.func (Fn.func 185) #[] #[Value.pointer (some { block := kD + 1 + 1, off := 0 })], .int .i64 (lo + (x.1 : Int)), undef, undef, undef, undef, undef, undef, undef, undef, undef, undef, undef, undef], defers := [] })
    (fun x a' _ X Y row hs hg hr => hs)
    ?assign ?body ?done ?stop
  case assign =>
    rintro lp pre x W K hI hK
    gi_wp2
    exact hK _ _ (KeepsFrom.of_below (Below.refl _ _)) (KpR.of (Below.refl _ _)) hI rfl
  case body =>
    rintro lp pre x a' W hlp ⟨r, hr⟩ ⟨⟨hI, u, hU, hO⟩, hB1⟩ rfl hlt
    have hxN := x.2
    have hn1 := HN1.out
    have hlen : pre.length ≤ 1000000 := by have := HN1.out; omega
    obtain ⟨sv, s1, s2, s3, s4, s5⟩ := hsp.out (lo + (x.1 : Int)) (by omega) W (hD1.out.trans (hB1.mono hkk))
    have hSt : St W W ((kD + 1, 2, u) :: [(kD, 0, .slice (some ⟨G, 0, none⟩) nn nn), (kD + 1, 0, .int .i64 ch), (kD + 1, 1, .int .i64 lo), (w.heap.size + 1 + 1, 0, .func (.func 123) #[] #[]), (w.heap.size + 1 + 1 + 1, 0, .int .i64 0), (w.heap.size + 1 + 1 + 1, 1, .int .i64 0), (w.heap.size + 1 + 1 + 1, 2, .slice none 0 0)]) := ⟨Below.refl _ _, hU.1, hI⟩
    obtain ⟨E, hE0, HE, LE, BE, hne2⟩ := cls hSt
    haveI := hne2
    have s6 : ∀ W', Below W.heap.size W W' → Calls Tryz.prog 137 #[.slice (some ⟨G, 0, none⟩) nn nn, .int .i64 (lo + (x.1 : Int))] W' fun e w'' => e = .returned (sv.s.v sv.q sv.cap) ∧ Below W'.heap.size W' w'' := s5
    have S6 : ∀ (D : World → Prop) (h1 : ∀ W W', D W → Below W.heap.size W W' → D W') (h2 : ∀ W, D W → E W) (n : Wd D), Hid (Calls Tryz.prog 137 #[.slice (some ⟨G, 0, none⟩) nn nn, .int .i64 (lo + (x.1 : Int))] n.w fun e w'' => e = .returned (sv.s.v sv.q sv.cap) ∧ ∃ m : Wd D, w'' = m.w) :=
      fun D h1 h2 n => Calls.quiet_in (C := D) ((s6 n.w (BE.out ⟨n.w, h2 _ n.h⟩)).mono fun _ _ h => ⟨h.1, h1 _ _ n.h h.2⟩)
    have S7 : ∀ (D : World → Prop) (h1 : ∀ W W', D W → Below W.heap.size W W' → D W') (h2 : ∀ W, D W → E W) (n : Wd D), Hid (Calls Tryz.prog 123 #[sv.s.v sv.q sv.cap, .int .i64 (lo + (x.1 : Int))] n.w fun e w'' => e = .returned (.int .i64 (lowS sv.s (lo + (x.1 : Int)))) ∧ ∃ m : Wd D, w'' = m.w) :=
      fun D h1 h2 n => Calls.quiet_in (C := D) ((low_any sv.s sv.q sv.cap (lo + (x.1 : Int)) n.w s2 (by omega) (s3.keep (BE.out ⟨n.w, h2 _ n.h⟩))).mono fun _ _ h => ⟨h.1, h1 _ _ n.h h.2⟩)
    obtain ⟨V, hV⟩ : ∃ V, sv.s.v sv.q sv.cap = V := ⟨_, rfl⟩
    obtain ⟨z, hz⟩ : ∃ z, lowS sv.s (lo + (x.1 : Int)) = z := ⟨_, rfl⟩
    have HZ : Hid ((pre ++ [x]).map (fun y => lowS (S (lo + (y.1 : Int))) (lo + (y.1 : Int))) = pre.map (fun y => lowS (S (lo + (y.1 : Int))) (lo + (y.1 : Int))) ++ [z]) := by
      unfold Hid; rw [List.map_append, ← hz, s1]; rfl
    have HLn : Hid ((pre.map (fun y => lowS (S (lo + (y.1 : Int))) (lo + (y.1 : Int)))).length ≤ 1000000) := by unfold Hid; rw [List.length_map]; exact hlen
    simp only [hV] at S6 S7
    simp only [hz] at S7
    have HS6 := Lib.hid S6
    have HS7 := Lib.hid S7
    have HH := Lib.hid (And.intro hI (And.intro hU (And.intro hO hB1)))
    have HE0 := Lib.hid hE0
    obtain ⟨l, hl⟩ : ∃ l, pre.map (fun y => lowS (S (lo + (y.1 : Int))) (lo + (y.1 : Int))) = l := ⟨_, rfl⟩
    rw [hl] at HZ HLn HH
    clear hSt hI hU hO hB1 hV hz s1 s2 s3 s4 s5 s6 hE0 hl hr hn1 S6 S7
    dsimp only
    gi_wp2
    refine wpIn_region_made (l := lp) 8 40 E (fun b => .slice (some ⟨b, 0, none⟩) 1 1) (.cells #[.int .i64 z] 3) HE.out (HE.out _ _ HE0.out (below_dr _)) (by kernel_rfl) (by kernel_rfl) (by kernel_rfl) ⟨_, rfl, rfl, rfl⟩ (by kernel_rfl) ?_
    apply Exists.intro
    apply And.intro
    · intro D h1 h2 h3
      haveI := h3
      have g0 : ∀ n : Wd D, n.w.cell? ⟨kD + 1, 2, none⟩ = some u := fun n => (LE.out ⟨n.w, h2 _ n.h⟩).1.2.1
      have g1 : ∀ n : Wd D, n.w.cell? ⟨kD, 0, none⟩ = some (.slice (some ⟨G, 0, none⟩) nn nn) := fun n => (LE.out ⟨n.w, h2 _ n.h⟩).2.1.2.1
      have g2 : ∀ n : Wd D, n.w.cell? ⟨w.heap.size + 1 + 1, 0, none⟩ = some (.func (.func 123) #[] #[]) := fun n => (LE.out ⟨n.w, h2 _ n.h⟩).2.2.2.2.1.2.1
      have F1 := HS6.out D h1 h2
      have F2 := HS7.out D h1 h2
      simp only [List.take_succ_cons, List.take_zero]
      repeat (go_big_quiet_step (first | with_reducible exact (F1 _).out | with_reducible exact (F2 _).out))
      exact wpQuiet_nil rfl
    refine ⟨?ok, ?tail⟩
    case ok =>
      intro os hos W
      simp only [List.getElem?_cons_succ, List.getElem?_cons_zero, Option.some.injEq] at hos
      subst hos
      simp [execOp, Instr.buildSlice, go_sem]
    case tail =>
      intro wx b hwx hb hbo
      obtain ⟨n3, rfl⟩ : ∃ n : Wd E, wx = n.w := ⟨⟨wx, hwx⟩, rfl⟩
      clear hwx HS6 HS7
      have HX := Lib.hid (BE.out n3)
      have HC3 := Lib.hid (LE.out n3)
      have HO3 := Lib.hid (ownsRow_keep HH.out.2.2.1 HX.out)
      have HSZ : Hid (kD + 3 ≤ n3.w.heap.size) := by
        have h1 := HX.out.size
        have h2 := HH.out.2.2.2.size
        unfold Hid; omega
      simp only [List.drop_succ_cons, List.drop_zero, Act.put]
      go_simp
      refine appIat HO3.out HSZ.out z hbo HLn.out rfl _ _ rfl rfl rfl ?_
      intro v' w2 hO4 hg
      obtain ⟨qv, cv, rfl, -, -⟩ := OI.ints hO4
      have HO4 := Lib.hid hO4
      have HG := Lib.hid hg
      have HU4 := Lib.hid (Cs.grown (L := [(kD + 1, 2, u)]) hg (fun y hy => by simp at hy; rw [hy]; exact row_ne_lo HO3.out (by omega)) ⟨HC3.out.1, trivial⟩)
      have HI4 := Lib.hid (Cs.grown hg (fun y hy => by refine row_ne_lo HO3.out ?_; simp at hy; rcases hy with rfl | rfl | rfl | rfl | rfl | rfl | rfl <;> simp <;> omega) HC3.out.2)
      obtain ⟨⟨_, i1, i2⟩, -⟩ := HU4.out
      clear hO4 hg
      gi_wp2
      have hXs := HX.out.size
      have hs2 := HSZ.out
      have hWs := HH.out.2.2.2.size
      refine ⟨((KeepsFrom.of_below HX.out).trans (KeepsFrom.row HO3.out HG.out)).trans ((KeepsOthers.setCell _ _ _).from _), kpR_t (kpR_t (KpR.of HX.out) (KpR.row HO3.out (by omega) HG.out)) (KpR.set _ (by omega)), ⟨⟨?_, ⟨_, Cs.setS HU4.out, ?_⟩⟩, ?_⟩⟩
      · exact Cs.setO (fun y hy e1 e2 => by simp at hy; rcases hy with rfl | rfl | rfl | rfl | rfl | rfl | rfl <;> simp at e1 e2 <;> omega) HI4.out
      · rw [HZ.out]; rw [show l.length + 1 = (l ++ [z]).length from by simp]; exact row_set (b := kD + 1) (o := 2) HO4.out (by omega) _
      · exact (below_row (HH.out.2.2.2.trans (HX.out.mono (by omega))) HO3.out (by omega) HG.out (by omega)).setCell (p := ⟨kD + 1, 2, none⟩) (by simp) _
  case done =>
    rintro D zs W hD rfl ⟨⟨hI, u, hU, hO⟩, hB1⟩ hK
    have hWs := hB1.size
    obtain ⟨qv, cv, rfl, -, -⟩ := OI.ints hO
    obtain ⟨⟨_, a1, -⟩, ⟨_, a2, -⟩, ⟨_, a3, -⟩, ⟨_, a4, -⟩, ⟨c5, a5, b5⟩, ⟨c6, a6, b6⟩, ⟨c7, a7, b7⟩, -⟩ := hI
    obtain ⟨⟨_, a8, -⟩, -⟩ := hU
    have HH := Lib.hid (And.intro hO hB1)
    clear hO hB1
    gi_wp2
    have hK1 := (KeepsOthers.setCell W ⟨w.heap.size + 1 + 1 + 1, 0, none⟩ (Value.int .i64 ch)).same D _ hK rfl
    have hK2 := (KeepsOthers.setCell _ ⟨w.heap.size + 1 + 1 + 1, 1, none⟩ (Value.int .i64 lo)).same D _ hK1 rfl
    have hK3 := (KeepsOthers.setCell _ ⟨w.heap.size + 1 + 1 + 1, 2, none⟩ (Value.slice qv N cv)).same D _ hK2 rfl
    have hR1 : Cs (((W.setCell ⟨w.heap.size + 1 + 1 + 1, 0, none⟩ (.int .i64 ch)).setCell ⟨w.heap.size + 1 + 1 + 1, 1, none⟩ (.int .i64 lo)).setCell ⟨w.heap.size + 1 + 1 + 1, 2, none⟩ (.slice qv N cv))
        [(w.heap.size + 1 + 1 + 1, 0, .int .i64 ch), (w.heap.size + 1 + 1 + 1, 1, .int .i64 lo), (w.heap.size + 1 + 1 + 1, 2, .slice qv N cv)] := by
      have r0 := Cs.setS (u := Value.int .i64 ch) (⟨⟨c5, a5, b5⟩, trivial⟩ : Cs W [(w.heap.size + 1 + 1 + 1, 0, .int .i64 0)])
      have r1 : Cs (W.setCell ⟨w.heap.size + 1 + 1 + 1, 0, none⟩ (.int .i64 ch)) [(w.heap.size + 1 + 1 + 1, 1, .int .i64 0)] := Cs.setO (by simp) (⟨⟨c6, a6, b6⟩, trivial⟩ : Cs W [(w.heap.size + 1 + 1 + 1, 1, .int .i64 0)])
      have r2 : Cs (W.setCell ⟨w.heap.size + 1 + 1 + 1, 0, none⟩ (.int .i64 ch)) [(w.heap.size + 1 + 1 + 1, 2, .slice none 0 0)] := Cs.setO (by simp) (⟨⟨c7, a7, b7⟩, trivial⟩ : Cs W [(w.heap.size + 1 + 1 + 1, 2, .slice none 0 0)])
      have s0 := Cs.setO (b := w.heap.size + 1 + 1 + 1) (o := 1) (u := Value.int .i64 lo) (by simp) r0
      have s1 := Cs.setS (u := Value.int .i64 lo) r1
      have s2 := Cs.setO (b := w.heap.size + 1 + 1 + 1) (o := 1) (u := Value.int .i64 lo) (by simp) r2
      have t0 := Cs.setO (b := w.heap.size + 1 + 1 + 1) (o := 2) (u := Value.slice qv N cv) (by simp) s0
      have t1 := Cs.setO (b := w.heap.size + 1 + 1 + 1) (o := 2) (u := Value.slice qv N cv) (by simp) s1
      have t2 := Cs.setS (u := Value.slice qv N cv) s2
      exact ⟨t0.1, t1.1, t2.1, trivial⟩
    have hR2 := Cs.own (grownBy_putObj' _ D (.deferred none)) (fun r e => by cases e; exact ⟨_, hK3, rfl⟩) hR1
    obtain ⟨⟨_, j1, -⟩, ⟨_, j2, -⟩, ⟨_, j3, -⟩, -⟩ := hR2
    have hl : ((List.finRange N).map fun y => lowS (S (lo + (y.1 : Int))) (lo + (y.1 : Int))) = (yrs lo N).map fun y => lowS (S y) y := upN_map (fun y => lowS (S y) y) lo N
    have hO := HH.out.1
    rw [hl] at hO
    have hN2 : ((yrs lo N).map fun y => lowS (S y) y).length = N := by rw [List.length_map]; simp [yrs]
    have hO1 := row_set (b := w.heap.size + 1 + 1 + 1) (o := 2) (row_set (b := w.heap.size + 1 + 1 + 1) (o := 1) (row_set (b := w.heap.size + 1 + 1 + 1) (o := 0) hO (by omega) (.int .i64 ch)) (by omega) (.int .i64 lo)) (by omega) (.slice qv N cv)
    have hO2 := (row_ownFrom (β := Unit) 0 (kD + 3) 3 1 (fun _ => Value.slice qv (((yrs lo N).map fun y => lowS (S y) y).length) cv) (fun _ => ((yrs lo N).map fun y => lowS (S y) y).length) (fun _ => ((yrs lo N).map fun y => lowS (S y) y).map (Value.int .i64))).putObj (s := ()) (.deferred none) hO1 (Nat.zero_le _) hK3 rfl
    rw [hN2] at hO2
    refine ⟨by simp, .inl ⟨_, _, rfl, run_takeDeferred hK3, ?_⟩⟩
    refine ⟨.tuple #[.agg #[.int .i64 ch, .int .i64 lo, .slice qv N cv], .int .i64 0], by simp [results, Tryz.results122, go_sem, j1, j2, j3], ⟨_, rfl, ⟨fun e => absurd rfl e, fun _ => ⟨_, rfl, ?_⟩⟩⟩, ?_⟩
    · show World.ownsRow _ _ 3 1 _ (((yrs lo N).map fun y => lowS (S y) y).length) _
      rw [hN2]
      exact row_mono hO2 (by omega)
    · exact (set3 (hB0.trans (HH.out.2.mono hkw)) (by omega) _ _ _).trans (belowK_b (w := w) (Nat.le_refl _) _ D _ _ (by omega) hK3 rfl rfl)
  case stop =>
    rintro D c pre W _ _ h _
    exact h.elim
theorem lengths123_any (x : WA) (ch lo hi : Int) (w : World) (h : x.At w) :
    Calls Tryz.prog 122 #[x.v, .int .i64 ch, spv lo hi, .func (.func 123) #[] #[]] w fun e w' => (∃ v, e = .returned (.tuple #[v, .int .i64 (alE x ch lo hi)]) ∧ LnRes (alE x ch lo hi) ch lo (lnL lowS x (chOr x.cs ch) lo hi) w.heap.size w' v) ∧ Below w.heap.size w w' := by
  by_cases hE : alE x ch lo hi = 0
  · exact lengths123_ok x ch lo hi w h hE
  · exact lengths123_no x ch lo hi w h hE
set_option maxRecDepth 100000 in
set_option maxHeartbeats 6400000 in
theorem lengths125_no (x : WA) (ch lo hi : Int) (w : World) (h : x.At w) (hE : alE x ch lo hi ≠ 0) :
    Calls Tryz.prog 122 #[x.v, .int .i64 ch, spv lo hi, .func (.func 125) #[] #[]] w fun e w' => (∃ v, e = .returned (.tuple #[v, .int .i64 (alE x ch lo hi)]) ∧ LnRes (alE x ch lo hi) ch lo (lnL highS x (chOr x.cs ch) lo hi) w.heap.size w' v) ∧ Below w.heap.size w w' := by
  have K1 := fun W (hb : Below w.heap.size w W) => agreedAll_any x ch lo hi W (h.keep hb)
  obtain ⟨E, hEE⟩ : ∃ E, alE x ch lo hi = E := ⟨_, rfl⟩
  rw [hEE] at hE ⊢
  simp only [hEE] at K1
  have K2 : ∀ W, Below w.heap.size w W → Calls Tryz.prog 130 #[x.v, .int .i64 ch, spv lo hi] W fun e w' => e = .returned (.tuple #[.slice none 0 0, .int .i64 E]) ∧ Below W.heap.size W w' := fun W hb => (K1 W hb).mono (by
    rintro e w' ⟨⟨v, rfl, hv⟩, hb2⟩
    exact ⟨by rw [hv.no hE], hb2⟩)
  obtain ⟨L, hL⟩ : ∃ L, lnL highS x (chOr x.cs ch) lo hi = L := ⟨_, rfl⟩
  rw [hL]
  have HE := Lib.hid hE
  have hb : (E != 0) = true := by simpa using hE
  clear K1 h hEE hL hE
  obtain ⟨cs, ps, rs, q1, q2, q3, c1, c2, c3⟩ := x
  simp only [WA.v] at *
  go_enter Tryz.func122, Tryz.ntmps122
  go_wp2_with fail
  obtain ⟨W0, hW0⟩ : ∃ W0, ((((w).alloc (.cells #[.slice q1 cs.length c1, .slice q2 ps.length c2, .slice q3 rs.length c3] 26)).alloc (.cells #[.int .i64 lo, .int .i64 hi] 30)).alloc (.cells #[.func (.func 125) #[] #[]] 166)).alloc (.cells #[.int .i64 0, .int .i64 0, .slice none 0 0] 58) = W0 := ⟨_, rfl⟩
  have S0 : St w W0 [(w.heap.size + 1 + 1 + 1, 0, .int .i64 0), (w.heap.size + 1 + 1 + 1, 1, .int .i64 0), (w.heap.size + 1 + 1 + 1, 2, .slice none 0 0), (w.heap.size + 1 + 1, 0, .func (.func 125) #[] #[]), (w.heap.size + 1, 0, .int .i64 lo), (w.heap.size + 1, 1, .int .i64 hi), (w.heap.size, 0, .slice q1 cs.length c1), (w.heap.size, 1, .slice q2 ps.length c2), (w.heap.size, 2, .slice q3 rs.length c3)] := by rw [← hW0]; exact (((((St.nil w)).box #[.slice q1 cs.length c1, .slice q2 ps.length c2, .slice q3 rs.length c3] 26 (w.heap.size) (by simp)).box #[.int .i64 lo, .int .i64 hi] 30 (w.heap.size + 1) (by simp)).box #[.func (.func 125) #[] #[]] 166 (w.heap.size + 1 + 1) (by simp)).box #[.int .i64 0, .int .i64 0, .slice none 0 0] 58 (w.heap.size + 1 + 1 + 1) (by simp)
  rw [hW0]
  clear hW0
  obtain ⟨C, hC0, HC, LC, BC, hne⟩ := cls S0
  haveI := hne
  obtain ⟨c0, rfl⟩ : ∃ n : Wd C, W0 = n.w := ⟨⟨_, hC0⟩, rfl⟩
  have fC0 : ∀ n : Wd C, n.w.cell? ⟨w.heap.size + 1 + 1 + 1, 0, none⟩ = some (.int .i64 0) := fun n => (LC.out n).1.2.1
  have zC0 : ∀ n : Wd C, n.w.frozen? ⟨w.heap.size + 1 + 1 + 1, 0, none⟩ = false := fun n => (LC.out n).1.2.2
  have fC1 : ∀ n : Wd C, n.w.cell? ⟨w.heap.size + 1 + 1 + 1, 1, none⟩ = some (.int .i64 0) := fun n => (LC.out n).2.1.2.1
  have zC1 : ∀ n : Wd C, n.w.frozen? ⟨w.heap.size + 1 + 1 + 1, 1, none⟩ = false := fun n => (LC.out n).2.1.2.2
  have fC2 : ∀ n : Wd C, n.w.cell? ⟨w.heap.size + 1 + 1 + 1, 2, none⟩ = some (.slice none 0 0) := fun n => (LC.out n).2.2.1.2.1
  have zC2 : ∀ n : Wd C, n.w.frozen? ⟨w.heap.size + 1 + 1 + 1, 2, none⟩ = false := fun n => (LC.out n).2.2.1.2.2
  have fC3 : ∀ n : Wd C, n.w.cell? ⟨w.heap.size + 1 + 1, 0, none⟩ = some (.func (.func 125) #[] #[]) := fun n => (LC.out n).2.2.2.1.2.1
  have fC4 : ∀ n : Wd C, n.w.cell? ⟨w.heap.size + 1, 0, none⟩ = some (.int .i64 lo) := fun n => (LC.out n).2.2.2.2.1.2.1
  have fC5 : ∀ n : Wd C, n.w.cell? ⟨w.heap.size + 1, 1, none⟩ = some (.int .i64 hi) := fun n => (LC.out n).2.2.2.2.2.1.2.1
  have fC6 : ∀ n : Wd C, n.w.cell? ⟨w.heap.size, 0, none⟩ = some (.slice q1 cs.length c1) := fun n => (LC.out n).2.2.2.2.2.2.1.2.1
  have fC7 : ∀ n : Wd C, n.w.cell? ⟨w.heap.size, 1, none⟩ = some (.slice q2 ps.length c2) := fun n => (LC.out n).2.2.2.2.2.2.2.1.2.1
  have fC8 : ∀ n : Wd C, n.w.cell? ⟨w.heap.size, 2, none⟩ = some (.slice q3 rs.length c3) := fun n => (LC.out n).2.2.2.2.2.2.2.2.1.2.1
  clear S0 hC0
  have D1 := cinL HC BC K2
  clear K2
  go_wp2_with fail
  refine (D1 _).out.mono ?_
  rintro e w' ⟨rfl, m, rfl⟩
  go_upto_region 2 with fail
  obtain ⟨W0, hW0⟩ : ∃ W0, (m.w).alloc (.cells #[.slice none 0 0] 158) = W0 := ⟨_, rfl⟩
  have S0 : St w W0 [(m.w.heap.size, 0, .slice none 0 0), (w.heap.size + 1 + 1 + 1, 0, .int .i64 0), (w.heap.size + 1 + 1 + 1, 1, .int .i64 0), (w.heap.size + 1 + 1 + 1, 2, .slice none 0 0), (w.heap.size + 1 + 1, 0, .func (.func 125) #[] #[]), (w.heap.size + 1, 0, .int .i64 lo), (w.heap.size + 1, 1, .int .i64 hi), (w.heap.size, 0, .slice q1 cs.length c1), (w.heap.size, 1, .slice q2 ps.length c2), (w.heap.size, 2, .slice q3 rs.length c3)] := by rw [← hW0]; exact ((⟨BC.out m, LC.out m⟩ : St w m.w _)).box #[.slice none 0 0] 158 (m.w.heap.size) (by simp)
  rw [hW0]
  clear hW0
  obtain ⟨kD, hkk⟩ : ∃ k, m.w.heap.size = k := ⟨_, rfl⟩
  have gkD : w.heap.size ≤ kD := by rw [← hkk]; exact (BC.out m).size
  rw [hkk] at S0 ⊢
  have eD1 : kD ≠ w.heap.size + 1 + 1 + 1 := by have h := (LC.out m).1.1; omega
  have dD1 : w.heap.size + 1 + 1 + 1 ≠ kD := Ne.symm eD1
  clear hkk
  obtain ⟨D, hC0, HD, LD, BD, hne⟩ := cls S0
  haveI := hne
  obtain ⟨d0, rfl⟩ : ∃ n : Wd D, W0 = n.w := ⟨⟨_, hC0⟩, rfl⟩
  have fD0 : ∀ n : Wd D, n.w.cell? ⟨kD, 0, none⟩ = some (.slice none 0 0) := fun n => (LD.out n).1.2.1
  have fD1 : ∀ n : Wd D, n.w.cell? ⟨w.heap.size + 1 + 1 + 1, 0, none⟩ = some (.int .i64 0) := fun n => (LD.out n).2.1.2.1
  have zD1 : ∀ n : Wd D, n.w.frozen? ⟨w.heap.size + 1 + 1 + 1, 0, none⟩ = false := fun n => (LD.out n).2.1.2.2
  have fD2 : ∀ n : Wd D, n.w.cell? ⟨w.heap.size + 1 + 1 + 1, 1, none⟩ = some (.int .i64 0) := fun n => (LD.out n).2.2.1.2.1
  have zD2 : ∀ n : Wd D, n.w.frozen? ⟨w.heap.size + 1 + 1 + 1, 1, none⟩ = false := fun n => (LD.out n).2.2.1.2.2
  have fD3 : ∀ n : Wd D, n.w.cell? ⟨w.heap.size + 1 + 1 + 1, 2, none⟩ = some (.slice none 0 0) := fun n => (LD.out n).2.2.2.1.2.1
  have zD3 : ∀ n : Wd D, n.w.frozen? ⟨w.heap.size + 1 + 1 + 1, 2, none⟩ = false := fun n => (LD.out n).2.2.2.1.2.2
  have fD4 : ∀ n : Wd D, n.w.cell? ⟨w.heap.size + 1 + 1, 0, none⟩ = some (.func (.func 125) #[] #[]) := fun n => (LD.out n).2.2.2.2.1.2.1
  have fD5 : ∀ n : Wd D, n.w.cell? ⟨w.heap.size + 1, 0, none⟩ = some (.int .i64 lo) := fun n => (LD.out n).2.2.2.2.2.1.2.1
  have fD6 : ∀ n : Wd D, n.w.cell? ⟨w.heap.size + 1, 1, none⟩ = some (.int .i64 hi) := fun n => (LD.out n).2.2.2.2.2.2.1.2.1
  have fD7 : ∀ n : Wd D, n.w.cell? ⟨w.heap.size, 0, none⟩ = some (.slice q1 cs.length c1) := fun n => (LD.out n).2.2.2.2.2.2.2.1.2.1
  have fD8 : ∀ n : Wd D, n.w.cell? ⟨w.heap.size, 1, none⟩ = some (.slice q2 ps.length c2) := fun n => (LD.out n).2.2.2.2.2.2.2.2.1.2.1
  have fD9 : ∀ n : Wd D, n.w.cell? ⟨w.heap.size, 2, none⟩ = some (.slice q3 rs.length c3) := fun n => (LD.out n).2.2.2.2.2.2.2.2.2.1.2.1
  clear S0 hC0
  have hRD : w.heap.size + 3 < d0.w.heap.size := (LD.out d0).2.1.1
  clear D1
  go_wp2_with fail
  refine bodyPost_ret (v := .tuple #[noWr, .int .i64 E]) (by simp [results, Tryz.results122, go_sem, fD1, fD2, fD3]) rfl ?_
  exact ⟨⟨_, rfl, ⟨fun _ => rfl, fun e => absurd e HE.out⟩⟩, set3 (BD.out _) (by omega) _ _ _⟩
--OK
set_option maxRecDepth 100000 in
set_option maxHeartbeats 6400000 in
theorem lengths125_ok (x : WA) (ch lo hi : Int) (w : World) (h : x.At w) (hE : alE x ch lo hi = 0) :
    Calls Tryz.prog 122 #[x.v, .int .i64 ch, spv lo hi, .func (.func 125) #[] #[]] w fun e w' => (∃ v, e = .returned (.tuple #[v, .int .i64 (alE x ch lo hi)]) ∧ LnRes (alE x ch lo hi) ch lo (lnL highS x (chOr x.cs ch) lo hi) w.heap.size w' v) ∧ Below w.heap.size w w' := by
  have K1 := fun W (hb : Below w.heap.size w W) => agreedAll_any x ch lo hi W (h.keep hb)
  obtain ⟨-, -, HY, -⟩ := alE_zero hE
  obtain ⟨c, hc⟩ : ∃ c, chOr x.cs ch = c := ⟨_, rfl⟩
  rw [hc] at HY
  simp only [hE, hc] at K1
  rw [hE, hc]
  obtain ⟨y1, y2, y3, y4, y5⟩ := HY
  obtain ⟨X, hX⟩ : ∃ X, x = X := ⟨_, rfl⟩
  have K2 : ∀ W, Below w.heap.size w W → Calls Tryz.prog 130 #[X.v, .int .i64 ch, spv lo hi] W fun e w' => (∃ (G n : Nat), e = .returned (.tuple #[.slice (some ⟨G, 0, none⟩) n n, .int .i64 0]) ∧
      Hid (∀ y, c.year ≤ y → ∀ W2, Below w'.heap.size w' W2 → ∃ sv : SV, sv.s = spO x c y ∧ okS sv.s = true ∧ ThsAt W2 sv.q sv.s.ths ∧ (sv.s.ths.length ≤ sv.cap ∧ sv.cap ≤ maxLen) ∧
        ∀ W', Below W2.heap.size W2 W' → Calls Tryz.prog 137 #[.slice (some ⟨G, 0, none⟩) n n, .int .i64 y] W' fun e w'' => e = .returned sv.v ∧ Below W'.heap.size W' w'')) ∧ Below W.heap.size W w' := fun W hb => by
    rw [← hX]
    refine (K1 W hb).mono ?_
    rintro e w' ⟨⟨v, rfl, hv⟩, hb2⟩
    obtain ⟨G, n, xs, rfl, hn, hn61, hsp⟩ := hv.ok rfl
    exact ⟨⟨G, n, rfl, fun y hy W2 hb3 => sps_spell (hsp.keep hb3) hn hn61 y hy⟩, hb2⟩
  have HL : Hid (∀ y, c.year ≤ y → y ≤ 4000 → True) := fun _ _ _ => trivial
  obtain ⟨S, hS⟩ : ∃ S : Int → Spl, spO x c = S := ⟨_, rfl⟩
  rw [show lnL highS x c lo hi = (yrs lo (hi - lo + 1).toNat).map (fun y => highS (S y) y) from by rw [← hS]; rfl]
  simp only [hS] at K2
  rw [show x.v = X.v from by rw [hX]]
  clear K1 h hE hc HL hS hX
  obtain ⟨cs, ps, rs, q1, q2, q3, c1, c2, c3⟩ := X
  obtain ⟨N, hN⟩ : ∃ N, (hi - lo + 1).toNat = N := ⟨_, rfl⟩
  have hN1 : hi = lo + (N : Int) - 1 := by omega
  rw [hN]
  have HN1 := Lib.hid hN1
  clear hN hN1
  simp only [WA.v] at *
  have HK2 := Lib.hid K2
  clear K2
  refine (callsIn_wide (n := 5)).1 ?_
  refine callsIn_of_wp_marks Tryz.func122 rfl trivial ?_ rfl
  simp only [Tryz.ntmps122, List.size_toArray, List.length_cons, List.length_nil, Nat.reduceAdd, Nat.reduceSub, Array.replicate_succ, Array.replicate_zero, List.push_toArray, List.append_toArray, List.nil_append, List.cons_append]
  gi_wp2
  obtain ⟨W0, hW0⟩ : ∃ W0, ((((w).alloc (.cells #[.slice q1 cs.length c1, .slice q2 ps.length c2, .slice q3 rs.length c3] 26)).alloc (.cells #[.int .i64 lo, .int .i64 hi] 30)).alloc (.cells #[.func (.func 125) #[] #[]] 166)).alloc (.cells #[.int .i64 0, .int .i64 0, .slice none 0 0] 58) = W0 := ⟨_, rfl⟩
  have S0 : St w W0 [(w.heap.size + 1 + 1 + 1, 0, .int .i64 0), (w.heap.size + 1 + 1 + 1, 1, .int .i64 0), (w.heap.size + 1 + 1 + 1, 2, .slice none 0 0), (w.heap.size + 1 + 1, 0, .func (.func 125) #[] #[]), (w.heap.size + 1, 0, .int .i64 lo), (w.heap.size + 1, 1, .int .i64 hi), (w.heap.size, 0, .slice q1 cs.length c1), (w.heap.size, 1, .slice q2 ps.length c2), (w.heap.size, 2, .slice q3 rs.length c3)] := by rw [← hW0]; exact (((((St.nil w)).box #[.slice q1 cs.length c1, .slice q2 ps.length c2, .slice q3 rs.length c3] 26 (w.heap.size) (by simp)).box #[.int .i64 lo, .int .i64 hi] 30 (w.heap.size + 1) (by simp)).box #[.func (.func 125) #[] #[]] 166 (w.heap.size + 1 + 1) (by simp)).box #[.int .i64 0, .int .i64 0, .slice none 0 0] 58 (w.heap.size + 1 + 1 + 1) (by simp)
  rw [hW0]
  clear hW0
  obtain ⟨C, hC0, HC, LC, BC, hne⟩ := cls S0
  haveI := hne
  obtain ⟨c0, rfl⟩ : ∃ n : Wd C, W0 = n.w := ⟨⟨_, hC0⟩, rfl⟩
  have fC0 : ∀ n : Wd C, n.w.cell? ⟨w.heap.size + 1 + 1 + 1, 0, none⟩ = some (.int .i64 0) := fun n => (LC.out n).1.2.1
  have zC0 : ∀ n : Wd C, n.w.frozen? ⟨w.heap.size + 1 + 1 + 1, 0, none⟩ = false := fun n => (LC.out n).1.2.2
  have fC1 : ∀ n : Wd C, n.w.cell? ⟨w.heap.size + 1 + 1 + 1, 1, none⟩ = some (.int .i64 0) := fun n => (LC.out n).2.1.2.1
  have zC1 : ∀ n : Wd C, n.w.frozen? ⟨w.heap.size + 1 + 1 + 1, 1, none⟩ = false := fun n => (LC.out n).2.1.2.2
  have fC2 : ∀ n : Wd C, n.w.cell? ⟨w.heap.size + 1 + 1 + 1, 2, none⟩ = some (.slice none 0 0) := fun n => (LC.out n).2.2.1.2.1
  have zC2 : ∀ n : Wd C, n.w.frozen? ⟨w.heap.size + 1 + 1 + 1, 2, none⟩ = false := fun n => (LC.out n).2.2.1.2.2
  have fC3 : ∀ n : Wd C, n.w.cell? ⟨w.heap.size + 1 + 1, 0, none⟩ = some (.func (.func 125) #[] #[]) := fun n => (LC.out n).2.2.2.1.2.1
  have fC4 : ∀ n : Wd C, n.w.cell? ⟨w.heap.size + 1, 0, none⟩ = some (.int .i64 lo) := fun n => (LC.out n).2.2.2.2.1.2.1
  have fC5 : ∀ n : Wd C, n.w.cell? ⟨w.heap.size + 1, 1, none⟩ = some (.int .i64 hi) := fun n => (LC.out n).2.2.2.2.2.1.2.1
  have fC6 : ∀ n : Wd C, n.w.cell? ⟨w.heap.size, 0, none⟩ = some (.slice q1 cs.length c1) := fun n => (LC.out n).2.2.2.2.2.2.1.2.1
  have fC7 : ∀ n : Wd C, n.w.cell? ⟨w.heap.size, 1, none⟩ = some (.slice q2 ps.length c2) := fun n => (LC.out n).2.2.2.2.2.2.2.1.2.1
  have fC8 : ∀ n : Wd C, n.w.cell? ⟨w.heap.size, 2, none⟩ = some (.slice q3 rs.length c3) := fun n => (LC.out n).2.2.2.2.2.2.2.2.1.2.1
  clear S0 hC0
  refine ⟨trivial, ?_⟩
  refine (callsIn_wide.2 (HK2.out _ (BC.out _))).mono ?_
  rintro e w1 ⟨⟨G, nn, rfl, hsp⟩, hb1⟩
  have S1 : St w1 w1 [(w.heap.size + 1 + 1 + 1, 0, .int .i64 0), (w.heap.size + 1 + 1 + 1, 1, .int .i64 0), (w.heap.size + 1 + 1 + 1, 2, .slice none 0 0), (w.heap.size + 1 + 1, 0, .func (.func 125) #[] #[]), (w.heap.size + 1, 0, .int .i64 lo), (w.heap.size + 1, 1, .int .i64 hi), (w.heap.size, 0, .slice q1 cs.length c1), (w.heap.size, 1, .slice q2 ps.length c2), (w.heap.size, 2, .slice q3 rs.length c3)] := ⟨Below.refl _ _, (LC.out _).keep hb1⟩
  have HB1 := Lib.hid ((BC.out _).trans (hb1.mono (BC.out _).size))
  clear hb1 HK2 HC LC BC fC0 fC1 fC2 fC3 fC4 fC5 fC6 fC7 fC8 zC0 zC1 zC2 hne
  obtain ⟨K, hC0, HK, LK, BK, hne⟩ := cls S1
  haveI := hne
  obtain ⟨k0, rfl⟩ : ∃ n : Wd K, w1 = n.w := ⟨⟨_, hC0⟩, rfl⟩
  have fK0 : ∀ n : Wd K, n.w.cell? ⟨w.heap.size + 1 + 1 + 1, 0, none⟩ = some (.int .i64 0) := fun n => (LK.out n).1.2.1
  have fK1 : ∀ n : Wd K, n.w.cell? ⟨w.heap.size + 1 + 1 + 1, 1, none⟩ = some (.int .i64 0) := fun n => (LK.out n).2.1.2.1
  have fK2 : ∀ n : Wd K, n.w.cell? ⟨w.heap.size + 1 + 1 + 1, 2, none⟩ = some (.slice none 0 0) := fun n => (LK.out n).2.2.1.2.1
  have fK3 : ∀ n : Wd K, n.w.cell? ⟨w.heap.size + 1 + 1, 0, none⟩ = some (.func (.func 125) #[] #[]) := fun n => (LK.out n).2.2.2.1.2.1
  have fK4 : ∀ n : Wd K, n.w.cell? ⟨w.heap.size + 1, 0, none⟩ = some (.int .i64 lo) := fun n => (LK.out n).2.2.2.2.1.2.1
  have fK5 : ∀ n : Wd K, n.w.cell? ⟨w.heap.size + 1, 1, none⟩ = some (.int .i64 hi) := fun n => (LK.out n).2.2.2.2.2.1.2.1
  have fK6 : ∀ n : Wd K, n.w.cell? ⟨w.heap.size, 0, none⟩ = some (.slice q1 cs.length c1) := fun n => (LK.out n).2.2.2.2.2.2.1.2.1
  have fK7 : ∀ n : Wd K, n.w.cell? ⟨w.heap.size, 1, none⟩ = some (.slice q2 ps.length c2) := fun n => (LK.out n).2.2.2.2.2.2.2.1.2.1
  have fK8 : ∀ n : Wd K, n.w.cell? ⟨w.heap.size, 2, none⟩ = some (.slice q3 rs.length c3) := fun n => (LK.out n).2.2.2.2.2.2.2.2.1.2.1
  have zK0 : ∀ n : Wd K, n.w.frozen? ⟨w.heap.size + 1 + 1 + 1, 0, none⟩ = false := fun n => (LK.out n).1.2.2
  have zK1 : ∀ n : Wd K, n.w.frozen? ⟨w.heap.size + 1 + 1 + 1, 1, none⟩ = false := fun n => (LK.out n).2.1.2.2
  have zK2 : ∀ n : Wd K, n.w.frozen? ⟨w.heap.size + 1 + 1 + 1, 2, none⟩ = false := fun n => (LK.out n).2.2.1.2.2
  clear S1 hC0
  gi_wp2_with (refine ⟨trivial, ?_⟩; gi_at_call 131; refine (each_in Fence.wide _ trivial rfl _ _ _).mono ?_; rintro e w' ⟨rfl, rfl⟩)
  obtain ⟨W0, hW0⟩ : ∃ W0, (((k0.w).alloc (.cells #[.slice (some ⟨G, 0, none⟩) nn nn] 158)).alloc (.cells #[.int .i64 ch, .int .i64 lo, .slice none 0 0] 58)).alloc (.cells #[.int .i64 lo, .int .i64 hi] 30) = W0 := ⟨_, rfl⟩
  have S0 : St k0.w W0 [(k0.w.heap.size + 1 + 1, 0, .int .i64 lo), (k0.w.heap.size + 1 + 1, 1, .int .i64 hi), (k0.w.heap.size + 1, 0, .int .i64 ch), (k0.w.heap.size + 1, 1, .int .i64 lo), (k0.w.heap.size + 1, 2, .slice none 0 0), (k0.w.heap.size, 0, .slice (some ⟨G, 0, none⟩) nn nn), (w.heap.size + 1 + 1 + 1, 0, .int .i64 0), (w.heap.size + 1 + 1 + 1, 1, .int .i64 0), (w.heap.size + 1 + 1 + 1, 2, .slice none 0 0), (w.heap.size + 1 + 1, 0, .func (.func 125) #[] #[]), (w.heap.size + 1, 0, .int .i64 lo), (w.heap.size + 1, 1, .int .i64 hi), (w.heap.size, 0, .slice q1 cs.length c1), (w.heap.size, 1, .slice q2 ps.length c2), (w.heap.size, 2, .slice q3 rs.length c3)] := by rw [← hW0]; exact ((((⟨BK.out k0, LK.out k0⟩ : St k0.w k0.w _)).box #[.slice (some ⟨G, 0, none⟩) nn nn] 158 (k0.w.heap.size) (by simp)).box #[.int .i64 ch, .int .i64 lo, .slice none 0 0] 58 (k0.w.heap.size + 1) (by simp)).box #[.int .i64 lo, .int .i64 hi] 30 (k0.w.heap.size + 1 + 1) (by simp)
  rw [hW0]
  clear hW0
  obtain ⟨kD, hkk⟩ : ∃ k, k0.w.heap.size = k := ⟨_, rfl⟩
  have gkD : k0.w.heap.size ≤ kD := by rw [← hkk]; exact (BK.out k0).size
  rw [hkk] at S0 ⊢
  have eD1 : kD ≠ w.heap.size + 1 + 1 + 1 := by have h := (LK.out k0).1.1; omega
  have dD1 : w.heap.size + 1 + 1 + 1 ≠ kD := Ne.symm eD1
  clear hkk
  obtain ⟨D, hC0, HD, LD, BD, hne⟩ := cls S0
  haveI := hne
  obtain ⟨d0, rfl⟩ : ∃ n : Wd D, W0 = n.w := ⟨⟨_, hC0⟩, rfl⟩
  have fD0 : ∀ n : Wd D, n.w.cell? ⟨kD + 1 + 1, 0, none⟩ = some (.int .i64 lo) := fun n => (LD.out n).1.2.1
  have fD1 : ∀ n : Wd D, n.w.cell? ⟨kD + 1 + 1, 1, none⟩ = some (.int .i64 hi) := fun n => (LD.out n).2.1.2.1
  have fD2 : ∀ n : Wd D, n.w.cell? ⟨kD + 1, 0, none⟩ = some (.int .i64 ch) := fun n => (LD.out n).2.2.1.2.1
  have fD3 : ∀ n : Wd D, n.w.cell? ⟨kD + 1, 1, none⟩ = some (.int .i64 lo) := fun n => (LD.out n).2.2.2.1.2.1
  have fD4 : ∀ n : Wd D, n.w.cell? ⟨kD + 1, 2, none⟩ = some (.slice none 0 0) := fun n => (LD.out n).2.2.2.2.1.2.1
  have fD5 : ∀ n : Wd D, n.w.cell? ⟨kD, 0, none⟩ = some (.slice (some ⟨G, 0, none⟩) nn nn) := fun n => (LD.out n).2.2.2.2.2.1.2.1
  have fD6 : ∀ n : Wd D, n.w.cell? ⟨w.heap.size + 1 + 1 + 1, 0, none⟩ = some (.int .i64 0) := fun n => (LD.out n).2.2.2.2.2.2.1.2.1
  have zD6 : ∀ n : Wd D, n.w.frozen? ⟨w.heap.size + 1 + 1 + 1, 0, none⟩ = false := fun n => (LD.out n).2.2.2.2.2.2.1.2.2
  have fD7 : ∀ n : Wd D, n.w.cell? ⟨w.heap.size + 1 + 1 + 1, 1, none⟩ = some (.int .i64 0) := fun n => (LD.out n).2.2.2.2.2.2.2.1.2.1
  have zD7 : ∀ n : Wd D, n.w.frozen? ⟨w.heap.size + 1 + 1 + 1, 1, none⟩ = false := fun n => (LD.out n).2.2.2.2.2.2.2.1.2.2
  have fD8 : ∀ n : Wd D, n.w.cell? ⟨w.heap.size + 1 + 1 + 1, 2, none⟩ = some (.slice none 0 0) := fun n => (LD.out n).2.2.2.2.2.2.2.2.1.2.1
  have zD8 : ∀ n : Wd D, n.w.frozen? ⟨w.heap.size + 1 + 1 + 1, 2, none⟩ = false := fun n => (LD.out n).2.2.2.2.2.2.2.2.1.2.2
  have fD9 : ∀ n : Wd D, n.w.cell? ⟨w.heap.size + 1 + 1, 0, none⟩ = some (.func (.func 125) #[] #[]) := fun n => (LD.out n).2.2.2.2.2.2.2.2.2.1.2.1
  have fD10 : ∀ n : Wd D, n.w.cell? ⟨w.heap.size + 1, 0, none⟩ = some (.int .i64 lo) := fun n => (LD.out n).2.2.2.2.2.2.2.2.2.2.1.2.1
  have fD11 : ∀ n : Wd D, n.w.cell? ⟨w.heap.size + 1, 1, none⟩ = some (.int .i64 hi) := fun n => (LD.out n).2.2.2.2.2.2.2.2.2.2.2.1.2.1
  have fD12 : ∀ n : Wd D, n.w.cell? ⟨w.heap.size, 0, none⟩ = some (.slice q1 cs.length c1) := fun n => (LD.out n).2.2.2.2.2.2.2.2.2.2.2.2.1.2.1
  have fD13 : ∀ n : Wd D, n.w.cell? ⟨w.heap.size, 1, none⟩ = some (.slice q2 ps.length c2) := fun n => (LD.out n).2.2.2.2.2.2.2.2.2.2.2.2.2.1.2.1
  have fD14 : ∀ n : Wd D, n.w.cell? ⟨w.heap.size, 2, none⟩ = some (.slice q3 rs.length c3) := fun n => (LD.out n).2.2.2.2.2.2.2.2.2.2.2.2.2.2.1.2.1
  clear S0 hC0
  have hLD := LD.out d0
  have hsz : kD + 1 + 1 < d0.w.heap.size := hLD.1.1
  have hkz : w.heap.size + 1 + 1 + 1 < kD := by have := (LK.out k0).1.1; omega
  have hkk : k0.w.heap.size ≤ kD := gkD
  have hkw : w.heap.size ≤ kD := by omega
  have hB0 : Below w.heap.size w d0.w := HB1.out.trans ((BD.out d0).mono HB1.out.size)
  have hc0 := fD0 d0
  have hc1 := fD1 d0
  have hD1 : Hid (Below k0.w.heap.size k0.w d0.w) := BD.out d0
  obtain ⟨q0, q1', q2', q3', q4', q5', q6', q7', q8', q9', -⟩ := hLD
  clear fD0 fD1 fD2 fD3 fD4 fD5 fD6 fD7 fD8 fD9 fD10 fD11 fD12 fD13 fD14 zD6 zD7 zD8 HD LD BD eD1 dD1
  obtain ⟨W0, hW0⟩ : ∃ W0, d0.w = W0 := ⟨_, rfl⟩
  rw [hW0] at hsz hB0 hc0 hc1 hD1 q0 q1' q2' q3' q4' q5' q6' q7' q8' q9' ⊢
  clear hW0
  refine wpIn_rangeFunc_ownH rfl (by omega) (gf := 185) (lb := #[.pointer (some ⟨kD + 1 + 1, 0, none⟩)]) rfl trivial (enters_of Tryz.func185 (by kernel_rfl) rfl)
    (each_stops Fence.wide 4 trivial rfl (by omega) (kD + 1 + 1) lo N (by omega) (by have := HN1.out; omega) W0 hsz hc0 (by rw [← HN1.out]; exact hc1)) kpR_t (kpR_b hsz) (Below.refl _ _) (fun _ => rfl)
    (fun pre W => (Cs W [(kD, 0, .slice (some ⟨G, 0, none⟩) nn nn), (kD + 1, 0, .int .i64 ch), (kD + 1, 1, .int .i64 lo), (w.heap.size + 1 + 1, 0, .func (.func 125) #[] #[]), (w.heap.size + 1 + 1 + 1, 0, .int .i64 0), (w.heap.size + 1 + 1 + 1, 1, .int .i64 0), (w.heap.size + 1 + 1 + 1, 2, .slice none 0 0)] ∧ ∃ u, Cs W [(kD + 1, 2, u)] ∧ OI W (kD + 3) u (pre.map fun y => highS (S (lo + (y.1 : Int))) (lo + (y.1 : Int)))) ∧ Below kD W0 W)
    (fun _ _ _ => False)
    (OwnFrom.and (OwnFrom.and (cs_ownFrom _ (fun _ => [(kD, 0, .slice (some ⟨G, 0, none⟩) nn nn), (kD + 1, 0, .int .i64 ch), (kD + 1, 1, .int .i64 lo), (w.heap.size + 1 + 1, 0, .func (.func 125) #[] #[]), (w.heap.size + 1 + 1 + 1, 0, .int .i64 0), (w.heap.size + 1 + 1 + 1, 1, .int .i64 0), (w.heap.size + 1 + 1 + 1, 2, .slice none 0 0)])) (OwnFrom.ex fun u => OwnFrom.and (cs_ownFrom _ (fun _ => [(kD + 1, 2, u)])) (row_ownFrom _ _ _ _ (fun _ => u) _ _))) (ownFrom_below (by omega) (by omega)))
    (fun _ _ _ _ _ hs _ _ => hs)
    ⟨⟨⟨q5', q2', q3', q9', q6', q7', q8', trivial⟩, _, ⟨q4', trivial⟩, World.ownsRow_nil _ _ _ _⟩, Below.refl _ _⟩
    (fun x a' W => a' = { tmps := #[Value.agg #[Value.slice q1 cs.length c1, Value.slice q2 ps.length c2, Value.slice q3 rs.length c3], Value.int IntKind.i64 ch, spv lo hi, Value.func (Fn.func 125) #[] #[], Value.pointer (some { block := w.heap.size, off := 0 }), undef, Value.pointer (some { block := w.heap.size + 1, off := 0 }), Value.pointer (some { block := w.heap.size + 1 + 1, off := 0 }), Value.pointer (some { block := w.heap.size + 1 + 1 + 1, off := 0 }), Value.int IntKind.i64 0, Value.pointer (some { block := kD, off := 0 }), Value.int IntKind.i64 0, Value.pointer (some { block := kD + 1, off := 0 }), .int .i64 (lo + (x.1 : Int)), Value.tuple #[Value.slice (some { block := G, off := 0 }) nn nn, Value.int IntKind.i64 0], Value.agg #[Value.slice q1 cs.length c1, Value.slice q2 ps.length c2, Value.slice q3 rs.length c3], Value.int IntKind.i64 ch, Value.agg #[Value.int IntKind.i64 lo, Value.int IntKind.i64 hi], Value.tuple #[Value.slice (some { block := G, off := 0 }) nn nn, Value.int IntKind.i64 0], Value.slice (some { block := G, off := 0 }) nn nn, Value.int IntKind.i64 0, Value.int IntKind.i64 0, Value.bool false, undef, undef, Value.int IntKind.i64 ch, Value.pointer (some { block := w.heap.size + 1, off := 0 }), Value.int IntKind.i64 lo, Value.agg #[Value.int IntKind.i64 ch, Value.int IntKind.i64 lo, Value.slice none 0 0], Value.agg #[Value.int IntKind.i64 lo, Value.int IntKind.i64 hi], Value.func (Fn.func 185) #[] #[Value.pointer (some { block := kD + 1 + 1, off := 0 })], .int .i64 (lo + (x.1 : Int)), undef, undef, undef, undef, undef, undef, undef, undef, undef, undef, undef, undef], defers := [] })
    (fun x a' _ X Y row hs hg hr => hs)
    ?assign ?body ?done ?stop
  case assign =>
    rintro lp pre x W K hI hK
    gi_wp2
    exact hK _ _ (KeepsFrom.of_below (Below.refl _ _)) (KpR.of (Below.refl _ _)) hI rfl
  case body =>
    rintro lp pre x a' W hlp ⟨r, hr⟩ ⟨⟨hI, u, hU, hO⟩, hB1⟩ rfl hlt
    have hxN := x.2
    have hn1 := HN1.out
    have hlen : pre.length ≤ 1000000 := by have := HN1.out; omega
    obtain ⟨sv, s1, s2, s3, s4, s5⟩ := hsp.out (lo + (x.1 : Int)) (by omega) W (hD1.out.trans (hB1.mono hkk))
    have hSt : St W W ((kD + 1, 2, u) :: [(kD, 0, .slice (some ⟨G, 0, none⟩) nn nn), (kD + 1, 0, .int .i64 ch), (kD + 1, 1, .int .i64 lo), (w.heap.size + 1 + 1, 0, .func (.func 125) #[] #[]), (w.heap.size + 1 + 1 + 1, 0, .int .i64 0), (w.heap.size + 1 + 1 + 1, 1, .int .i64 0), (w.heap.size + 1 + 1 + 1, 2, .slice none 0 0)]) := ⟨Below.refl _ _, hU.1, hI⟩
    obtain ⟨E, hE0, HE, LE, BE, hne2⟩ := cls hSt
    haveI := hne2
    have s6 : ∀ W', Below W.heap.size W W' → Calls Tryz.prog 137 #[.slice (some ⟨G, 0, none⟩) nn nn, .int .i64 (lo + (x.1 : Int))] W' fun e w'' => e = .returned (sv.s.v sv.q sv.cap) ∧ Below W'.heap.size W' w'' := s5
    have S6 : ∀ (D : World → Prop) (h1 : ∀ W W', D W → Below W.heap.size W W' → D W') (h2 : ∀ W, D W → E W) (n : Wd D), Hid (Calls Tryz.prog 137 #[.slice (some ⟨G, 0, none⟩) nn nn, .int .i64 (lo + (x.1 : Int))] n.w fun e w'' => e = .returned (sv.s.v sv.q sv.cap) ∧ ∃ m : Wd D, w'' = m.w) :=
      fun D h1 h2 n => Calls.quiet_in (C := D) ((s6 n.w (BE.out ⟨n.w, h2 _ n.h⟩)).mono fun _ _ h => ⟨h.1, h1 _ _ n.h h.2⟩)
    have S7 : ∀ (D : World → Prop) (h1 : ∀ W W', D W → Below W.heap.size W W' → D W') (h2 : ∀ W, D W → E W) (n : Wd D), Hid (Calls Tryz.prog 125 #[sv.s.v sv.q sv.cap, .int .i64 (lo + (x.1 : Int))] n.w fun e w'' => e = .returned (.int .i64 (highS sv.s (lo + (x.1 : Int)))) ∧ ∃ m : Wd D, w'' = m.w) :=
      fun D h1 h2 n => Calls.quiet_in (C := D) ((high_any sv.s sv.q sv.cap (lo + (x.1 : Int)) n.w s2 (by omega) (s3.keep (BE.out ⟨n.w, h2 _ n.h⟩))).mono fun _ _ h => ⟨h.1, h1 _ _ n.h h.2⟩)
    obtain ⟨V, hV⟩ : ∃ V, sv.s.v sv.q sv.cap = V := ⟨_, rfl⟩
    obtain ⟨z, hz⟩ : ∃ z, highS sv.s (lo + (x.1 : Int)) = z := ⟨_, rfl⟩
    have HZ : Hid ((pre ++ [x]).map (fun y => highS (S (lo + (y.1 : Int))) (lo + (y.1 : Int))) = pre.map (fun y => highS (S (lo + (y.1 : Int))) (lo + (y.1 : Int))) ++ [z]) := by
      unfold Hid; rw [List.map_append, ← hz, s1]; rfl
    have HLn : Hid ((pre.map (fun y => highS (S (lo + (y.1 : Int))) (lo + (y.1 : Int)))).length ≤ 1000000) := by unfold Hid; rw [List.length_map]; exact hlen
    simp only [hV] at S6 S7
    simp only [hz] at S7
    have HS6 := Lib.hid S6
    have HS7 := Lib.hid S7
    have HH := Lib.hid (And.intro hI (And.intro hU (And.intro hO hB1)))
    have HE0 := Lib.hid hE0
    obtain ⟨l, hl⟩ : ∃ l, pre.map (fun y => highS (S (lo + (y.1 : Int))) (lo + (y.1 : Int))) = l := ⟨_, rfl⟩
    rw [hl] at HZ HLn HH
    clear hSt hI hU hO hB1 hV hz s1 s2 s3 s4 s5 s6 hE0 hl hr hn1 S6 S7
    dsimp only
    gi_wp2
    refine wpIn_region_made (l := lp) 8 40 E (fun b => .slice (some ⟨b, 0, none⟩) 1 1) (.cells #[.int .i64 z] 3) HE.out (HE.out _ _ HE0.out (below_dr _)) (by kernel_rfl) (by kernel_rfl) (by kernel_rfl) ⟨_, rfl, rfl, rfl⟩ (by kernel_rfl) ?_
    apply Exists.intro
    apply And.intro
    · intro D h1 h2 h3
      haveI := h3
      have g0 : ∀ n : Wd D, n.w.cell? ⟨kD + 1, 2, none⟩ = some u := fun n => (LE.out ⟨n.w, h2 _ n.h⟩).1.2.1
      have g1 : ∀ n : Wd D, n.w.cell? ⟨kD, 0, none⟩ = some (.slice (some ⟨G, 0, none⟩) nn nn) := fun n => (LE.out ⟨n.w, h2 _ n.h⟩).2.1.2.1
      have g2 : ∀ n : Wd D, n.w.cell? ⟨w.heap.size + 1 + 1, 0, none⟩ = some (.func (.func 125) #[] #[]) := fun n => (LE.out ⟨n.w, h2 _ n.h⟩).2.2.2.2.1.2.1
      have F1 := HS6.out D h1 h2
      have F2 := HS7.out D h1 h2
      simp only [List.take_succ_cons, List.take_zero]
      repeat (go_big_quiet_step (first | with_reducible exact (F1 _).out | with_reducible exact (F2 _).out))
      exact wpQuiet_nil rfl
    refine ⟨?ok, ?tail⟩
    case ok =>
      intro os hos W
      simp only [List.getElem?_cons_succ, List.getElem?_cons_zero, Option.some.injEq] at hos
      subst hos
      simp [execOp, Instr.buildSlice, go_sem]
    case tail =>
      intro wx b hwx hb hbo
      obtain ⟨n3, rfl⟩ : ∃ n : Wd E, wx = n.w := ⟨⟨wx, hwx⟩, rfl⟩
      clear hwx HS6 HS7
      have HX := Lib.hid (BE.out n3)
      have HC3 := Lib.hid (LE.out n3)
      have HO3 := Lib.hid (ownsRow_keep HH.out.2.2.1 HX.out)
      have HSZ : Hid (kD + 3 ≤ n3.w.heap.size) := by
        have h1 := HX.out.size
        have h2 := HH.out.2.2.2.size
        unfold Hid; omega
      simp only [List.drop_succ_cons, List.drop_zero, Act.put]
      go_simp
      refine appIat HO3.out HSZ.out z hbo HLn.out rfl _ _ rfl rfl rfl ?_
      intro v' w2 hO4 hg
      obtain ⟨qv, cv, rfl, -, -⟩ := OI.ints hO4
      have HO4 := Lib.hid hO4
      have HG := Lib.hid hg
      have HU4 := Lib.hid (Cs.grown (L := [(kD + 1, 2, u)]) hg (fun y hy => by simp at hy; rw [hy]; exact row_ne_lo HO3.out (by omega)) ⟨HC3.out.1, trivial⟩)
      have HI4 := Lib.hid (Cs.grown hg (fun y hy => by refine row_ne_lo HO3.out ?_; simp at hy; rcases hy with rfl | rfl | rfl | rfl | rfl | rfl | rfl <;> simp <;> omega) HC3.out.2)
      obtain ⟨⟨_, i1, i2⟩, -⟩ := HU4.out
      clear hO4 hg
      gi_wp2
      have hXs := HX.out.size
      have hs2 := HSZ.out
      have hWs := HH.out.2.2.2.size
      refine ⟨((KeepsFrom.of_below HX.out).trans (KeepsFrom.row HO3.out HG.out)).trans ((KeepsOthers.setCell _ _ _).from _), kpR_t (kpR_t (KpR.of HX.out) (KpR.row HO3.out (by omega) HG.out)) (KpR.set _ (by omega)), ⟨⟨?_, ⟨_, Cs.setS HU4.out, ?_⟩⟩, ?_⟩⟩
      · exact Cs.setO (fun y hy e1 e2 => by simp at hy; rcases hy with rfl | rfl | rfl | rfl | rfl | rfl | rfl <;> simp at e1 e2 <;> omega) HI4.out
      · rw [HZ.out]; rw [show l.length + 1 = (l ++ [z]).length from by simp]; exact row_set (b := kD + 1) (o := 2) HO4.out (by omega) _
      · exact (below_row (HH.out.2.2.2.trans (HX.out.mono (by omega))) HO3.out (by omega) HG.out (by omega)).setCell (p := ⟨kD + 1, 2, none⟩) (by simp) _
  case done =>
    rintro D zs W hD rfl ⟨⟨hI, u, hU, hO⟩, hB1⟩ hK
    have hWs := hB1.size
    obtain ⟨qv, cv, rfl, -, -⟩ := OI.ints hO
    obtain ⟨⟨_, a1, -⟩, ⟨_, a2, -⟩, ⟨_, a3, -⟩, ⟨_, a4, -⟩, ⟨c5, a5, b5⟩, ⟨c6, a6, b6⟩, ⟨c7, a7, b7⟩, -⟩ := hI
    obtain ⟨⟨_, a8, -⟩, -⟩ := hU
    have HH := Lib.hid (And.intro hO hB1)
    clear hO hB1
    gi_wp2
    have hK1 := (KeepsOthers.setCell W ⟨w.heap.size + 1 + 1 + 1, 0, none⟩ (Value.int .i64 ch)).same D _ hK rfl
    have hK2 := (KeepsOthers.setCell _ ⟨w.heap.size + 1 + 1 + 1, 1, none⟩ (Value.int .i64 lo)).same D _ hK1 rfl
    have hK3 := (KeepsOthers.setCell _ ⟨w.heap.size + 1 + 1 + 1, 2, none⟩ (Value.slice qv N cv)).same D _ hK2 rfl
    have hR1 : Cs (((W.setCell ⟨w.heap.size + 1 + 1 + 1, 0, none⟩ (.int .i64 ch)).setCell ⟨w.heap.size + 1 + 1 + 1, 1, none⟩ (.int .i64 lo)).setCell ⟨w.heap.size + 1 + 1 + 1, 2, none⟩ (.slice qv N cv))
        [(w.heap.size + 1 + 1 + 1, 0, .int .i64 ch), (w.heap.size + 1 + 1 + 1, 1, .int .i64 lo), (w.heap.size + 1 + 1 + 1, 2, .slice qv N cv)] := by
      have r0 := Cs.setS (u := Value.int .i64 ch) (⟨⟨c5, a5, b5⟩, trivial⟩ : Cs W [(w.heap.size + 1 + 1 + 1, 0, .int .i64 0)])
      have r1 : Cs (W.setCell ⟨w.heap.size + 1 + 1 + 1, 0, none⟩ (.int .i64 ch)) [(w.heap.size + 1 + 1 + 1, 1, .int .i64 0)] := Cs.setO (by simp) (⟨⟨c6, a6, b6⟩, trivial⟩ : Cs W [(w.heap.size + 1 + 1 + 1, 1, .int .i64 0)])
      have r2 : Cs (W.setCell ⟨w.heap.size + 1 + 1 + 1, 0, none⟩ (.int .i64 ch)) [(w.heap.size + 1 + 1 + 1, 2, .slice none 0 0)] := Cs.setO (by simp) (⟨⟨c7, a7, b7⟩, trivial⟩ : Cs W [(w.heap.size + 1 + 1 + 1, 2, .slice none 0 0)])
      have s0 := Cs.setO (b := w.heap.size + 1 + 1 + 1) (o := 1) (u := Value.int .i64 lo) (by simp) r0
      have s1 := Cs.setS (u := Value.int .i64 lo) r1
      have s2 := Cs.setO (b := w.heap.size + 1 + 1 + 1) (o := 1) (u := Value.int .i64 lo) (by simp) r2
      have t0 := Cs.setO (b := w.heap.size + 1 + 1 + 1) (o := 2) (u := Value.slice qv N cv) (by simp) s0
      have t1 := Cs.setO (b := w.heap.size + 1 + 1 + 1) (o := 2) (u := Value.slice qv N cv) (by simp) s1
      have t2 := Cs.setS (u := Value.slice qv N cv) s2
      exact ⟨t0.1, t1.1, t2.1, trivial⟩
    have hR2 := Cs.own (grownBy_putObj' _ D (.deferred none)) (fun r e => by cases e; exact ⟨_, hK3, rfl⟩) hR1
    obtain ⟨⟨_, j1, -⟩, ⟨_, j2, -⟩, ⟨_, j3, -⟩, -⟩ := hR2
    have hl : ((List.finRange N).map fun y => highS (S (lo + (y.1 : Int))) (lo + (y.1 : Int))) = (yrs lo N).map fun y => highS (S y) y := upN_map (fun y => highS (S y) y) lo N
    have hO := HH.out.1
    rw [hl] at hO
    have hN2 : ((yrs lo N).map fun y => highS (S y) y).length = N := by rw [List.length_map]; simp [yrs]
    have hO1 := row_set (b := w.heap.size + 1 + 1 + 1) (o := 2) (row_set (b := w.heap.size + 1 + 1 + 1) (o := 1) (row_set (b := w.heap.size + 1 + 1 + 1) (o := 0) hO (by omega) (.int .i64 ch)) (by omega) (.int .i64 lo)) (by omega) (.slice qv N cv)
    have hO2 := (row_ownFrom (β := Unit) 0 (kD + 3) 3 1 (fun _ => Value.slice qv (((yrs lo N).map fun y => highS (S y) y).length) cv) (fun _ => ((yrs lo N).map fun y => highS (S y) y).length) (fun _ => ((yrs lo N).map fun y => highS (S y) y).map (Value.int .i64))).putObj (s := ()) (.deferred none) hO1 (Nat.zero_le _) hK3 rfl
    rw [hN2] at hO2
    refine ⟨by simp, .inl ⟨_, _, rfl, run_takeDeferred hK3, ?_⟩⟩
    refine ⟨.tuple #[.agg #[.int .i64 ch, .int .i64 lo, .slice qv N cv], .int .i64 0], by simp [results, Tryz.results122, go_sem, j1, j2, j3], ⟨_, rfl, ⟨fun e => absurd rfl e, fun _ => ⟨_, rfl, ?_⟩⟩⟩, ?_⟩
    · show World.ownsRow _ _ 3 1 _ (((yrs lo N).map fun y => highS (S y) y).length) _
      rw [hN2]
      exact row_mono hO2 (by omega)
    · exact (set3 (hB0.trans (HH.out.2.mono hkw)) (by omega) _ _ _).trans (belowK_b (w := w) (Nat.le_refl _) _ D _ _ (by omega) hK3 rfl rfl)
  case stop =>
    rintro D c pre W _ _ h _
    exact h.elim
theorem lengths125_any (x : WA) (ch lo hi : Int) (w : World) (h : x.At w) :
    Calls Tryz.prog 122 #[x.v, .int .i64 ch, spv lo hi, .func (.func 125) #[] #[]] w fun e w' => (∃ v, e = .returned (.tuple #[v, .int .i64 (alE x ch lo hi)]) ∧ LnRes (alE x ch lo hi) ch lo (lnL highS x (chOr x.cs ch) lo hi) w.heap.size w' v) ∧ Below w.heap.size w w' := by
  by_cases hE : alE x ch lo hi = 0
  · exact lengths125_ok x ch lo hi w h hE
  · exact lengths125_no x ch lo hi w h hE
end Go.Proofs.YtcejmfgbfdhflaaGreat
