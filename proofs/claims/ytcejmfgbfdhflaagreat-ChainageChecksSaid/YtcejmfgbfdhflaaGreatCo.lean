import Derived.Test.YtcejmfgbfdhflaaGreatCn
import Derived.Test.YtcejmfgbfdhflaaGreatCm
import Derived.WalkKit
import Derived.LoopTactic
import Derived.WalkSpells
import Derived.WalkLawsBesides
import Derived.Lib.Hide
import Derived.BigQuiet
import Derived.IntWalk
import Derived.Deep.DeepMust
import Derived.WalkSmall
import Derived.StillTailTactics
import Derived.Deep.RegionLaw
import Derived.Deep.RegionHeld3
import Derived.Deep.QuietTactic
namespace Go.Proofs.YtcejmfgbfdhflaaGreat
open Go.RowKit Go.Shelf Go.BigFrame Go.Sort
attribute [local go_sem] World.cell?_alloc_some
def tsO (x : WA) (c : Ch) : List Th := srtB (begs x.rs c)
def ixO (x : WA) (c : Ch) (y : Int) : Nat := cntU ((tsO x c).map (·.year)) y - 1
/-- The spell of a chain that contains a year. -/
def spO (x : WA) (c : Ch) (y : Int) : Spl := spP c (tsO x c) x.ps (ixO x c y)
/-- The error of Spell. -/
def sE (x : WA) (ch y : Int) : Int :=
  if chk x ≠ 0 then chk x else if (chF x.cs ch).isSome = false then 5 else if inB (chOr x.cs ch).year 4000 y = false then 1 else 0
theorem cnt_pos {x : WA} {c : Ch} {y : Int} (hy : c.year ≤ y) : cntU ((tsO x c).map (·.year)) y = ixO x c y + 1 := by
  have : 0 < cntU ((tsO x c).map (·.year)) y := by
    unfold cntU
    rw [List.countP_pos_iff]
    refine ⟨c.year, List.mem_map.2 ⟨c.th, (srtB_perm _).symm.subset ?_, rfl⟩, by simpa using hy⟩
    unfold begs; exact List.mem_cons_self
  unfold ixO; omega
theorem ix_lt {x : WA} {c : Ch} {y : Int} (hy : c.year ≤ y) : ixO x c y < (tsO x c).length := by
  have h1 := cnt_pos (x := x) hy
  have h2 := cntU_le ((tsO x c).map (·.year)) y
  rw [List.length_map] at h2
  omega
abbrev noSp : Value := .agg #[.int .i64 0, .int .i64 0, .int .i64 0, .slice none 0 0]
/-- What Spell finds. -/
structure SpRes (x : WA) (c : Ch) (E y : Int) (B : Nat) (W : World) (v : Value) : Prop where
  no : E ≠ 0 → v = noSp
  ok : E = 0 → ∃ sv : SV, v = sv.v ∧ sv.s = spO x c y ∧ ThsN B W sv.q sv.s.ths ∧ sv.s.ths.length ≤ sv.cap ∧ sv.cap ≤ maxLen
theorem SpRes.keep {x : WA} {c : Ch} {E y : Int} {B : Nat} {W W' : World} {v : Value} (h : SpRes x c E y B W v) (hb : Below W.heap.size W W') : SpRes x c E y B W' v :=
  ⟨h.no, fun e => by
    obtain ⟨sv, h1, h2, h3, h4⟩ := h.ok e
    exact ⟨sv, h1, h2, h3.keep hb, h4⟩⟩
set_option maxRecDepth 100000 in
set_option maxHeartbeats 6400000 in
theorem spellIn_any (x : WA) (ch y : Int) (w : World) (h : x.At w) :
    Calls Tryz.prog 70 #[x.v, .int .i64 ch, .int .i64 y] w fun e w' => (∃ v, e = .returned (.tuple #[v, .int .i64 (sE x ch y)]) ∧ SpRes x (chOr x.cs ch) (sE x ch y) y w.heap.size w' v) ∧ Below w.heap.size w w' := by
  have K1 := fun W (hb : Below w.heap.size w W) => Check_any x W (h.keep hb)
  have K2 := fun W (hb : Below w.heap.size w W) => chainOf_any x.q1 x.c1 x.cs ch W h.n1 (h.cs.keep hb)
  obtain ⟨E, hE⟩ : ∃ E, sE x ch y = E := ⟨_, rfl⟩
  rw [hE]
  obtain ⟨k, hk⟩ : ∃ k, chk x = k := ⟨_, rfl⟩
  obtain ⟨c, hc⟩ : ∃ c, chOr x.cs ch = c := ⟨_, rfl⟩
  obtain ⟨z1, h1⟩ : ∃ z, (chF x.cs ch).isSome = z := ⟨_, rfl⟩
  obtain ⟨z2, h2⟩ : ∃ z, inB c.year 4000 y = z := ⟨_, rfl⟩
  have hS := hE
  unfold sE at hS
  rw [hk, hc, h1, h2] at hS
  simp only [hk] at K1
  simp only [hc, h1] at K2
  rw [hc]
  have K3 := fun W => yearsOf_any c W
  have K4 := fun W => within_any c.year 4000 y W
  simp only [h2] at K4
  have K5 : k = 0 → z1 = true → z2 = true → ∀ W, Below w.heap.size w W → Calls Tryz.prog 115 #[x.v, c.v] W fun e w' => (∃ (G n : Nat) (xs : List SV), e = .returned (.slice (some ⟨G, 0, none⟩) n n) ∧ n ≤ 1001 ∧
      Hid (∀ W', Below w'.heap.size w' W' → Calls Tryz.prog 137 #[.slice (some ⟨G, 0, none⟩) n n, .int .i64 y] W' fun e w'' => (∃ sv : SV, e = .returned sv.v ∧ sv.s = spO x c y ∧ ThsN W.heap.size w'' sv.q sv.s.ths ∧ sv.s.ths.length ≤ sv.cap ∧ sv.cap ≤ maxLen) ∧ Below W'.heap.size W' w'')) ∧ Below W.heap.size W w' := fun e1 e2 e3 W hb => by
    have hw := okW_of (hk.trans e1)
    obtain ⟨c', hc'⟩ := Option.isSome_iff_exists.1 (h1.trans e2)
    have : c' = c := by rw [← hc, chOr_some hc']
    subst this
    have hkc := okC_of hw hc'
    have hyy := inB_iff.1 (h2.trans e3)
    have hok := begs_ok hkc
    refine (spells_any x c' W (h.keep hb) (fun p hp e => (hkc.py p hp e).1) (fun t ht => (okTh_iff.1 (hok t ht).1).1)).mono ?_
    rintro e w' ⟨⟨G, n, ts, xs, rfl, hp, hs, hl1, hl2, hG, hmap, hat⟩, hb2⟩
    have hts : ts = tsO x c' := srtB_uniq (begs_ne hw hkc) hp hs
    have hn : n ≤ 1001 := by
      rw [← hl1, hp.length_eq]
      have := List.length_filter_le (fun r : Pf => r.ch == c'.id) x.rs
      have := h.n3
      unfold begs
      simp
      omega
    refine ⟨⟨G, n, xs, rfl, hn, fun W' hb3 => ?_⟩, hb2⟩
    have hlo : (xs.map fun x => x.s.lo) = ts.map (·.year) := by
      have e4 : (xs.map fun x => x.s.lo) = (xs.map (·.s)).map (·.lo) := by rw [List.map_map]; rfl
      rw [e4, hmap, List.map_map]
      apply List.ext_getElem
      · simp [hl1]
      · intro j h5 h6
        have : j < ts.length := by simpa using h6
        simp [spP, List.getElem?_eq_getElem this]
    have hup : upB (xs.map fun x => x.s.lo) := by
      rw [hlo]; unfold upB; rw [List.pairwise_map]; exact hs
    have hcn : cntU (xs.map fun x => x.s.lo) y = ixO x c' y + 1 := by rw [hlo, hts]; exact cnt_pos hyy.1
    have hix : ixO x c' y < xs.length := by
      have := ix_lt (x := x) hyy.1
      rw [← hts, hl1] at this
      omega
    obtain ⟨sv, hsv⟩ : ∃ sv, xs[ixO x c' y]? = some sv := ⟨_, List.getElem?_eq_getElem hix⟩
    obtain ⟨-, q2, q3, q4⟩ := hat _ _ hsv
    have hss : sv.s = spO x c' y := by
      have h5 : (xs.map (·.s))[ixO x c' y]? = some sv.s := by rw [List.getElem?_map, hsv]; rfl
      rw [hmap, List.getElem?_map, List.getElem?_range (by omega), hts] at h5
      exact (Option.some.inj h5).symm
    refine (spellOf_any G 0 n n xs y W' hl2 (by omega) (Nat.lt_of_lt_of_le hG hb3.size) (fun j sv hj => by rw [Nat.zero_add]; exact ((hat j sv hj).1).keep hb3) hup _ sv hcn hsv).mono ?_
    rintro e w'' ⟨rfl, hb4⟩
    exact ⟨⟨sv, rfl, hss, q2.keep (hb3.trans (hb4.mono hb3.size)), q3, q4⟩, hb4⟩
  have HS := Lib.hid hS
  have HK5 := Lib.hid K5
  clear h hE hS hk hc h1 h2 K5
  obtain ⟨cs, ps, rs, q1, q2, q3, c1, c2, c3⟩ := x
  simp only [WA.v] at *
  go_enter Tryz.func70, Tryz.ntmps70
  go_wp2_with fail
  obtain ⟨W0, hW0⟩ : ∃ W0, ((w).alloc (.cells #[.slice q1 cs.length c1, .slice q2 ps.length c2, .slice q3 rs.length c3] 26)).alloc (.cells #[.int .i64 0, .int .i64 0, .int .i64 0, .slice none 0 0] 111) = W0 := ⟨_, rfl⟩
  have S0 : St w W0 [(w.heap.size + 1, 0, .int .i64 0), (w.heap.size + 1, 1, .int .i64 0), (w.heap.size + 1, 2, .int .i64 0), (w.heap.size + 1, 3, .slice none 0 0), (w.heap.size, 0, .slice q1 cs.length c1), (w.heap.size, 1, .slice q2 ps.length c2), (w.heap.size, 2, .slice q3 rs.length c3)] := by rw [← hW0]; exact (((St.nil w)).box #[.slice q1 cs.length c1, .slice q2 ps.length c2, .slice q3 rs.length c3] 26 (w.heap.size) (by simp)).box #[.int .i64 0, .int .i64 0, .int .i64 0, .slice none 0 0] 111 (w.heap.size + 1) (by simp)
  rw [hW0]
  clear hW0
  obtain ⟨C, hC0, HC, LC, BC, hne⟩ := cls S0
  haveI := hne
  obtain ⟨c0, rfl⟩ : ∃ n : Wd C, W0 = n.w := ⟨⟨_, hC0⟩, rfl⟩
  have fC0 : ∀ n : Wd C, n.w.cell? ⟨w.heap.size + 1, 0, none⟩ = some (.int .i64 0) := fun n => (LC.out n).1.2.1
  have zC0 : ∀ n : Wd C, n.w.frozen? ⟨w.heap.size + 1, 0, none⟩ = false := fun n => (LC.out n).1.2.2
  have fC1 : ∀ n : Wd C, n.w.cell? ⟨w.heap.size + 1, 1, none⟩ = some (.int .i64 0) := fun n => (LC.out n).2.1.2.1
  have zC1 : ∀ n : Wd C, n.w.frozen? ⟨w.heap.size + 1, 1, none⟩ = false := fun n => (LC.out n).2.1.2.2
  have fC2 : ∀ n : Wd C, n.w.cell? ⟨w.heap.size + 1, 2, none⟩ = some (.int .i64 0) := fun n => (LC.out n).2.2.1.2.1
  have zC2 : ∀ n : Wd C, n.w.frozen? ⟨w.heap.size + 1, 2, none⟩ = false := fun n => (LC.out n).2.2.1.2.2
  have fC3 : ∀ n : Wd C, n.w.cell? ⟨w.heap.size + 1, 3, none⟩ = some (.slice none 0 0) := fun n => (LC.out n).2.2.2.1.2.1
  have zC3 : ∀ n : Wd C, n.w.frozen? ⟨w.heap.size + 1, 3, none⟩ = false := fun n => (LC.out n).2.2.2.1.2.2
  have fC4 : ∀ n : Wd C, n.w.cell? ⟨w.heap.size, 0, none⟩ = some (.slice q1 cs.length c1) := fun n => (LC.out n).2.2.2.2.1.2.1
  have fC5 : ∀ n : Wd C, n.w.cell? ⟨w.heap.size, 1, none⟩ = some (.slice q2 ps.length c2) := fun n => (LC.out n).2.2.2.2.2.1.2.1
  have fC6 : ∀ n : Wd C, n.w.cell? ⟨w.heap.size, 2, none⟩ = some (.slice q3 rs.length c3) := fun n => (LC.out n).2.2.2.2.2.2.1.2.1
  clear S0 hC0
  have D1 := cinL HC BC K1
  have D2 := cinL HC BC K2
  clear K1 K2
  by_cases hk0 : k = 0
  · subst hk0
    rw [if_neg (by simp)] at HS
    go_wp2_with (first | first | (go_at_call 23; with_reducible refine (D1 _).out.mono ?_; rintro e w' ⟨rfl, n, rfl⟩))
    refine (D2 _).out.mono ?_
    rintro e w' ⟨rfl, m, rfl⟩
    go_upto_region 5 with fail
    obtain ⟨W0, hW0⟩ : ∃ W0, (m.w).alloc (.cells #[.int .i64 c.id, .int .i64 c.year, .int .i64 c.lo, .int .i64 c.hi, .int .i64 c.wear] 90) = W0 := ⟨_, rfl⟩
    have S0 : St w W0 [(m.w.heap.size, 0, .int .i64 c.id), (m.w.heap.size, 1, .int .i64 c.year), (m.w.heap.size, 2, .int .i64 c.lo), (m.w.heap.size, 3, .int .i64 c.hi), (m.w.heap.size, 4, .int .i64 c.wear), (w.heap.size + 1, 0, .int .i64 0), (w.heap.size + 1, 1, .int .i64 0), (w.heap.size + 1, 2, .int .i64 0), (w.heap.size + 1, 3, .slice none 0 0), (w.heap.size, 0, .slice q1 cs.length c1), (w.heap.size, 1, .slice q2 ps.length c2), (w.heap.size, 2, .slice q3 rs.length c3)] := by rw [← hW0]; exact ((⟨BC.out m, LC.out m⟩ : St w m.w _)).box #[.int .i64 c.id, .int .i64 c.year, .int .i64 c.lo, .int .i64 c.hi, .int .i64 c.wear] 90 (m.w.heap.size) (by simp)
    rw [hW0]
    clear hW0
    obtain ⟨kD, hkk⟩ : ∃ k, m.w.heap.size = k := ⟨_, rfl⟩
    have gkD : w.heap.size ≤ kD := by rw [← hkk]; exact (BC.out m).size
    rw [hkk] at S0 ⊢
    have eD1 : kD ≠ w.heap.size + 1 := by have h := (LC.out m).1.1; omega
    have dD1 : w.heap.size + 1 ≠ kD := Ne.symm eD1
    clear hkk
    obtain ⟨D, hC0, HD, LD, BD, hne⟩ := cls S0
    haveI := hne
    obtain ⟨d0, rfl⟩ : ∃ n : Wd D, W0 = n.w := ⟨⟨_, hC0⟩, rfl⟩
    have fD0 : ∀ n : Wd D, n.w.cell? ⟨kD, 0, none⟩ = some (.int .i64 c.id) := fun n => (LD.out n).1.2.1
    have fD1 : ∀ n : Wd D, n.w.cell? ⟨kD, 1, none⟩ = some (.int .i64 c.year) := fun n => (LD.out n).2.1.2.1
    have fD2 : ∀ n : Wd D, n.w.cell? ⟨kD, 2, none⟩ = some (.int .i64 c.lo) := fun n => (LD.out n).2.2.1.2.1
    have fD3 : ∀ n : Wd D, n.w.cell? ⟨kD, 3, none⟩ = some (.int .i64 c.hi) := fun n => (LD.out n).2.2.2.1.2.1
    have fD4 : ∀ n : Wd D, n.w.cell? ⟨kD, 4, none⟩ = some (.int .i64 c.wear) := fun n => (LD.out n).2.2.2.2.1.2.1
    have fD5 : ∀ n : Wd D, n.w.cell? ⟨w.heap.size + 1, 0, none⟩ = some (.int .i64 0) := fun n => (LD.out n).2.2.2.2.2.1.2.1
    have zD5 : ∀ n : Wd D, n.w.frozen? ⟨w.heap.size + 1, 0, none⟩ = false := fun n => (LD.out n).2.2.2.2.2.1.2.2
    have fD6 : ∀ n : Wd D, n.w.cell? ⟨w.heap.size + 1, 1, none⟩ = some (.int .i64 0) := fun n => (LD.out n).2.2.2.2.2.2.1.2.1
    have zD6 : ∀ n : Wd D, n.w.frozen? ⟨w.heap.size + 1, 1, none⟩ = false := fun n => (LD.out n).2.2.2.2.2.2.1.2.2
    have fD7 : ∀ n : Wd D, n.w.cell? ⟨w.heap.size + 1, 2, none⟩ = some (.int .i64 0) := fun n => (LD.out n).2.2.2.2.2.2.2.1.2.1
    have zD7 : ∀ n : Wd D, n.w.frozen? ⟨w.heap.size + 1, 2, none⟩ = false := fun n => (LD.out n).2.2.2.2.2.2.2.1.2.2
    have fD8 : ∀ n : Wd D, n.w.cell? ⟨w.heap.size + 1, 3, none⟩ = some (.slice none 0 0) := fun n => (LD.out n).2.2.2.2.2.2.2.2.1.2.1
    have zD8 : ∀ n : Wd D, n.w.frozen? ⟨w.heap.size + 1, 3, none⟩ = false := fun n => (LD.out n).2.2.2.2.2.2.2.2.1.2.2
    have fD9 : ∀ n : Wd D, n.w.cell? ⟨w.heap.size, 0, none⟩ = some (.slice q1 cs.length c1) := fun n => (LD.out n).2.2.2.2.2.2.2.2.2.1.2.1
    have fD10 : ∀ n : Wd D, n.w.cell? ⟨w.heap.size, 1, none⟩ = some (.slice q2 ps.length c2) := fun n => (LD.out n).2.2.2.2.2.2.2.2.2.2.1.2.1
    have fD11 : ∀ n : Wd D, n.w.cell? ⟨w.heap.size, 2, none⟩ = some (.slice q3 rs.length c3) := fun n => (LD.out n).2.2.2.2.2.2.2.2.2.2.2.1.2.1
    clear S0 hC0
    clear D1 D2
    have hkw : w.heap.size + 1 < d0.w.heap.size := (LD.out d0).2.2.2.2.2.1.1
    cases z1
    · rw [if_pos rfl] at HS
      obtain rfl : 5 = E := HS.out
      go_wp2_with fail
      refine bodyPost_ret (v := .tuple #[noSp, .int .i64 5]) (by simp [results, Tryz.results70, go_sem, fD5, fD6, fD7, fD8]) rfl ?_
      exact ⟨⟨noSp, rfl, ⟨fun _ => rfl, fun e => by cases e⟩⟩, set4 (BD.out _) (Nat.le_succ _) _ _ _ _⟩
    · rw [if_neg (by simp)] at HS
      have E1 := cin HD fun W => Calls.be (K3 W)
      have E2 := cin HD fun W => Calls.be (K4 W)
      clear K3 K4
      go_wp2_with fail
      refine (E1 _).out.mono ?_
      rintro e w' ⟨rfl, n1, rfl⟩
      go_wp2_with fail
      refine (E2 _).out.mono ?_
      rintro e w' ⟨rfl, n2, rfl⟩
      clear E1 E2
      cases z2
      · rw [if_pos rfl] at HS
        obtain rfl : 1 = E := HS.out
        go_wp2_with fail
        refine bodyPost_ret (v := .tuple #[noSp, .int .i64 1]) (by simp [results, Tryz.results70, go_sem, fD5, fD6, fD7, fD8]) rfl ?_
        exact ⟨⟨noSp, rfl, ⟨fun _ => rfl, fun e => by cases e⟩⟩, set4 (BD.out _) (Nat.le_succ _) _ _ _ _⟩
      · rw [if_neg (by simp)] at HS
        obtain rfl : 0 = E := HS.out
        go_wp2_with fail
        have HKW : Hid (w.heap.size + 1 < n2.w.heap.size) := (LD.out n2).2.2.2.2.2.1.1
        have HKW2 : Hid (w.heap.size ≤ n2.w.heap.size) := (BD.out n2).size
        refine (HK5.out (by first | rfl | trivial) (by first | rfl | trivial) (by first | rfl | trivial) _ (BD.out _)).mono ?_
        rintro e w3 ⟨⟨G, n, xs, rfl, hn, hcall⟩, hb⟩
        obtain ⟨n3, rfl⟩ : ∃ n : Wd D, w3 = n.w := ⟨⟨_, HD.out _ _ (Wd.h _) hb⟩, rfl⟩
        clear hb
        go_wp2_with fail
        refine (hcall.out _ (Below.refl _ _)).mono ?_
        rintro e w4 ⟨⟨sv, rfl, hsv, hth, hcap, hcm⟩, hb⟩
        obtain ⟨n4, rfl⟩ : ∃ n : Wd D, w4 = n.w := ⟨⟨_, HD.out _ _ (Wd.h _) hb⟩, rfl⟩
        obtain ⟨⟨slo, shi, swe, sth⟩, sq, sc⟩ := sv
        have HH := Lib.hid (And.intro hsv (And.intro hth (And.intro hcap hcm)))
        clear hb hcall hsv hth hcap hcm
        go_wp2_with fail
        refine bodyPost_ret (v := .tuple #[.agg #[.int .i64 slo, .int .i64 shi, .int .i64 swe, .slice sq sth.length sc], .int .i64 0]) (by simp [results, Tryz.results70, go_sem, fD5, fD6, fD7, fD8]) rfl ?_
        have hg := grown_trans (grown_trans (grown_trans (set_grown n4.w (w.heap.size + 1) 0 (.int .i64 slo)) (set_grown _ (w.heap.size + 1) 1 (.int .i64 shi))) (set_grown _ (w.heap.size + 1) 2 (.int .i64 swe))) (set_grown _ (w.heap.size + 1) 3 (.slice sq sth.length sc))
        exact ⟨⟨_, rfl, ⟨fun e => absurd rfl e, fun _ => ⟨⟨⟨slo, shi, swe, sth⟩, sq, sc⟩, rfl, HH.out.1, (HH.out.2.1.grownX HKW.out hg ⟨none, 0, 0, fD8 n4⟩).base HKW2.out, HH.out.2.2.1, HH.out.2.2.2⟩⟩⟩, set4 (BD.out _) (Nat.le_succ _) _ _ _ _⟩
  · have hb : (k != 0) = true := by simpa using hk0
    have HK := Lib.hid hk0
    obtain rfl : k = E := by have := HS.out; rwa [if_pos hk0] at this
    clear hk0
    go_wp2_with (first | first | (go_at_call 23; with_reducible refine (D1 _).out.mono ?_; rintro e w' ⟨rfl, n, rfl⟩))
    refine bodyPost_ret (v := .tuple #[noSp, .int .i64 k]) (by simp [results, Tryz.results70, go_sem, fC0, fC1, fC2, fC3]) rfl ?_
    exact ⟨⟨noSp, rfl, ⟨fun _ => rfl, fun e => absurd e HK.out⟩⟩, set4 (BC.out _) (Nat.le_succ _) _ _ _ _⟩
end Go.Proofs.YtcejmfgbfdhflaaGreat
