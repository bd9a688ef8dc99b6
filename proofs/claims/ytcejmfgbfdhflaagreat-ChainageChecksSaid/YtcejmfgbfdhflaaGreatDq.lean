import Derived.Test.YtcejmfgbfdhflaaGreatDp
import Derived.WalkKit
import Derived.LoopTactic
import Derived.WalkSpells
import Derived.WalkLawsBesides
import Derived.Lib.Hide
import Derived.BigQuiet
import Derived.IntWalk
import Derived.Deep.DeepMust
import Derived.WalkSmall
import Derived.StillTailTactics
import Derived.Deep.RegionLaw
import Derived.Deep.RegionHeld3
import Derived.Deep.QuietTactic
namespace Go.Proofs.YtcejmfgbfdhflaaGreat
open Go.RowKit Go.Shelf Go.BigFrame Go.Sort
attribute [local go_sem] World.cell?_alloc_some
theorem sorted_cnt (y : Int) : ∀ (ys : List Int), ys.Pairwise (fun a b => a ≤ b) → ∀ j, (h : j < ys.length) → (ys[j] ≤ y ↔ j < cntU ys y)
  | [], _, j, h => by simp at h
  | a :: l, hs, j, h => by
    rw [List.pairwise_cons] at hs
    by_cases ha : a ≤ y
    · have hc : cntU (a :: l) y = cntU l y + 1 := by simp [cntU, ha]
      match j, h with
      | 0, h => rw [hc]; simp [ha]
      | j + 1, h =>
        have := sorted_cnt y l hs.2 j (by simpa using h)
        rw [hc, List.getElem_cons_succ, this]; omega
    · have hc : cntU (a :: l) y = 0 := by
        unfold cntU
        rw [List.countP_eq_zero]
        intro b hb
        rcases List.mem_cons.1 hb with rfl | hb
        · simpa using ha
        · have := hs.1 b hb
          simp; omega
      rw [hc]
      match j, h with
      | 0, h => simp; omega
      | j + 1, h =>
        have hj : j < l.length := by simpa using h
        have := hs.1 l[j] (List.getElem_mem hj)
        rw [List.getElem_cons_succ]; omega
/-- What the fold over the repairs finds. -/
structure RspP (c : Ch) (y : Int) (l : List Pf) (a : Int × Int) : Prop where
  p1 : ∃ t ∈ begs l c, t.year ≤ y ∧ a.1 = t.year
  p2 : ∀ t ∈ begs l c, t.year ≤ y → t.year ≤ a.1
  p3 : ∀ t ∈ begs l c, y < t.year → a.2 ≤ t.year - 1
  p4 : a.2 = 4000 ∨ ∃ t ∈ begs l c, y < t.year ∧ a.2 = t.year - 1
theorem begs_snoc (l : List Pf) (r : Pf) (c : Ch) : begs (l ++ [r]) c = begs l c ++ (if r.ch = c.id then [r.th] else []) := by
  unfold begs
  rw [List.filter_append, List.map_append, List.cons_append]
  congr 2
  by_cases h : r.ch = c.id <;> simp [h]
theorem rsp_p (c : Ch) (y : Int) (l : List Pf) (hy : c.year ≤ y) : ∀ k, k ≤ l.length → RspP c y (l.take k) (rsp c y (l.take k))
  | 0, _ => by
    rw [List.take_zero]
    refine ⟨⟨c.th, List.mem_cons_self, hy, rfl⟩, fun t ht h => ?_, fun t ht h => ?_, .inl rfl⟩
    · obtain rfl : t = c.th := by simpa [begs] using ht
      exact Int.le_refl _
    · obtain rfl : t = c.th := by simpa [begs] using ht
      have : c.th.year = c.year := rfl
      omega
  | k + 1, h => by
    have ih := rsp_p c y l hy k (by omega)
    rw [take_snocG l k (by omega), rsp_snoc]
    obtain ⟨r, hr⟩ : ∃ r, l[k] = r := ⟨_, rfl⟩
    rw [hr]
    generalize rsp c y (l.take k) = a at ih ⊢
    obtain ⟨lo, hi⟩ := a
    obtain ⟨⟨t0, m0, q0, e0⟩, h2, h3, h4⟩ := ih
    simp only at e0 h2 h3 h4
    have hth : r.th.year = r.year := rfl
    unfold stp
    by_cases hc : r.ch = c.id
    · rw [if_neg (by simpa using hc)]
      have hb : begs (l.take k ++ [r]) c = begs (l.take k) c ++ [r.th] := by rw [begs_snoc, if_pos hc]
      by_cases hle : r.year ≤ y
      · rw [if_pos hle]
        refine ⟨?_, fun t ht hty => ?_, fun t ht hty => ?_, ?_⟩
        · rw [hb]
          rcases Int.le_total lo r.year with e | e
          · exact ⟨r.th, List.mem_append_right _ (List.mem_singleton_self _), by omega, by show max lo r.year = _; omega⟩
          · exact ⟨t0, List.mem_append_left _ m0, q0, by show max lo r.year = _; omega⟩
        · show t.year ≤ max lo r.year
          rw [hb] at ht
          rcases List.mem_append.1 ht with ht | ht
          · have := h2 t ht hty; omega
          · obtain rfl := List.mem_singleton.1 ht; omega
        · show hi ≤ t.year - 1
          rw [hb] at ht
          rcases List.mem_append.1 ht with ht | ht
          · exact h3 t ht hty
          · obtain rfl := List.mem_singleton.1 ht; omega
        · rcases h4 with e | ⟨t, m, q, e⟩
          · exact .inl e
          · exact .inr ⟨t, by rw [hb]; exact List.mem_append_left _ m, q, e⟩
      · rw [if_neg hle]
        refine ⟨⟨t0, by rw [hb]; exact List.mem_append_left _ m0, q0, e0⟩, fun t ht hty => ?_, fun t ht hty => ?_, ?_⟩
        · show t.year ≤ lo
          rw [hb] at ht
          rcases List.mem_append.1 ht with ht | ht
          · exact h2 t ht hty
          · obtain rfl := List.mem_singleton.1 ht; omega
        · show min hi (r.year - 1) ≤ t.year - 1
          rw [hb] at ht
          rcases List.mem_append.1 ht with ht | ht
          · have := h3 t ht hty; omega
          · obtain rfl := List.mem_singleton.1 ht; omega
        · rw [hb]
          rcases Int.le_total hi (r.year - 1) with e | e
          · rcases h4 with e2 | ⟨t, m, q, e2⟩
            · exact .inl (by show min hi (r.year - 1) = 4000; omega)
            · exact .inr ⟨t, List.mem_append_left _ m, q, by show min hi (r.year - 1) = _; omega⟩
          · exact .inr ⟨r.th, List.mem_append_right _ (List.mem_singleton_self _), by omega, by show min hi (r.year - 1) = _; omega⟩
    · rw [if_pos hc]
      have hb : begs (l.take k ++ [r]) c = begs (l.take k) c := by rw [begs_snoc, if_neg hc, List.append_nil]
      exact ⟨by rw [hb]; exact ⟨t0, m0, q0, e0⟩, by rw [hb]; exact h2, by rw [hb]; exact h3, by rw [hb]; exact h4⟩
theorem rsp_eq {x : WA} {c : Ch} {y : Int} (hc : OkC x c) (hy : c.year ≤ y) : rsp c y x.rs = ((spO x c y).lo, (spO x c y).hi) := by
  have hp := rsp_p c y x.rs hy x.rs.length (Nat.le_refl _)
  rw [List.take_length] at hp
  have hcn := cnt_pos (x := x) hy
  have hix := ix_lt (x := x) hy
  have hpm : (tsO x c).Perm (begs x.rs c) := srtB_perm _
  have hup : ((tsO x c).map (·.year)).Pairwise (fun a b => a ≤ b) := by rw [List.pairwise_map]; exact srtB_up _
  have hsc := sorted_cnt y _ hup
  rw [hcn] at hsc
  have hok := begs_ok hc
  show rsp c y x.rs = (((tsO x c).getD (ixO x c y) dTh).year, hiP (tsO x c) (ixO x c y))
  unfold hiP
  generalize tsO x c = ts at *
  generalize ixO x c y = ix at *
  obtain ⟨⟨t0, m0, q0, e0⟩, h2, h3, h4⟩ := hp
  have mem : ∀ t ∈ begs x.rs c, ∃ j, ∃ h : j < ts.length, ts[j] = t := fun t ht => by
    obtain ⟨j, hj, e⟩ := List.getElem_of_mem (hpm.symm.subset ht)
    exact ⟨j, hj, e⟩
  have yr : ∀ j, (h : j < ts.length) → (ts[j].year ≤ y ↔ j < ix + 1) := fun j h => by
    have := hsc j (by simpa using h)
    rwa [List.getElem_map] at this
  have srt : ∀ i j, (hi : i < ts.length) → (hj : j < ts.length) → i ≤ j → ts[i].year ≤ ts[j].year := fun i j hi hj hij => by
    rcases Nat.lt_or_ge i j with h | h
    · have := List.pairwise_iff_getElem.1 hup i j (by simpa using hi) (by simpa using hj) h
      rwa [List.getElem_map, List.getElem_map] at this
    · obtain rfl : i = j := by omega
      exact Int.le_refl _
  have g1 : ts.getD ix dTh = ts[ix] := by simp [List.getD, hix]
  have k1 : ts[ix].year ≤ (rsp c y x.rs).1 := h2 _ (hpm.subset (List.getElem_mem hix)) ((yr ix hix).2 (by omega))
  have k2 : (rsp c y x.rs).1 ≤ ts[ix].year := by
    rw [e0]
    obtain ⟨j, hj, rfl⟩ := mem t0 m0
    exact srt j ix hj hix (by have := (yr j hj).1 q0; omega)
  have k3 : (rsp c y x.rs).2 = if ix + 1 < ts.length then (ts.getD (ix + 1) dTh).year - 1 else 4000 := by
    by_cases hl : ix + 1 < ts.length
    · rw [if_pos hl, show ts.getD (ix + 1) dTh = ts[ix + 1] from by simp [List.getD, hl]]
      have hgt : y < ts[ix + 1].year := by have := (yr (ix + 1) hl); omega
      have hm := hpm.subset (List.getElem_mem hl)
      have u1 := h3 _ hm hgt
      have u2 := (okTh_iff.1 (hok _ hm).1).1.2
      rcases h4 with e | ⟨t, m, q, e⟩
      · omega
      · obtain ⟨j, hj, rfl⟩ := mem t m
        have := srt (ix + 1) j hl hj (by have := yr j hj; omega)
        omega
    · rw [if_neg hl]
      rcases h4 with e | ⟨t, m, q, e⟩
      · exact e
      · obtain ⟨j, hj, rfl⟩ := mem t m
        have := yr j hj
        omega
  rw [g1]
  exact Prod.ext (Int.le_antisymm k2 k1) k3

set_option maxRecDepth 100000 in
set_option maxHeartbeats 6400000 in
theorem rSpell_any (x : WA) (ch y : Int) (w : World) (h : x.At w) :
    Calls Tryz.prog 22 #[x.v, .int .i64 ch, .int .i64 y] w fun e w' => e = .returned (.tuple #[spv (slLo x ch y) (slHi x ch y), .int .i64 (sE x ch y)]) ∧ Below w.heap.size w w' := by
  have K1 := fun W (hb : Below w.heap.size w W) => rCheck_any x W (h.keep hb)
  have K2 := fun W (hb : Below w.heap.size w W) => chainAt_any x ch W (h.keep hb)
  have K3 : chk x = 0 → ∀ c, chF x.cs ch = some c → c.year ≤ y → ∀ W, Below w.heap.size w W → Calls Tryz.prog 73 #[x.v, c.v, .int .i64 y] W fun e w' => e = .returned (spv (spO x c y).lo (spO x c y).hi) ∧ Below W.heap.size W w' := fun hk c hc hy W hb => by
    have hw := okW_of hk
    have hkc := okC_of hw hc
    have := rspell_any x c y W (h.keep hb) (fun r hr => by
      have k := okRp_iff.1 (hw.rp r hr)
      have k2 := okCh_iff.1 (hw.ch _ (chF_mem (Option.some_get k.1).symm).1)
      have k3 := chOr_some (Option.some_get k.1).symm
      rw [← k3] at k2
      omega)
    rwa [rsp_eq hkc hy] at this
  have H := Lib.hid h.cs
  obtain ⟨A, hA⟩ : ∃ A, slLo x ch y = A := ⟨_, rfl⟩
  obtain ⟨B1, hB1⟩ : ∃ B, slHi x ch y = B := ⟨_, rfl⟩
  obtain ⟨E, hE⟩ : ∃ E, sE x ch y = E := ⟨_, rfl⟩
  rw [hA, hB1, hE]
  obtain ⟨k, hk⟩ : ∃ k, chk x = k := ⟨_, rfl⟩
  have HE1 : Hid (k ≠ 0 → E = k ∧ A = 0 ∧ B1 = 0) := fun e => by
    have e1 : sE x ch y = k := by unfold sE; rw [if_pos (by rw [hk]; exact e), hk]
    refine ⟨by rw [← hE, e1], ?_, ?_⟩
    · rw [← hA, slLo, if_neg (by rw [e1]; exact e)]
    · rw [← hB1, slHi, if_neg (by rw [e1]; exact e)]
  have HE2 : Hid (k = 0 → (chF x.cs ch).isSome = false → E = 5 ∧ A = 0 ∧ B1 = 0) := fun e e' => by
    have e1 : sE x ch y = 5 := by unfold sE; rw [if_neg (by simp [hk, e]), if_pos e']
    refine ⟨by rw [← hE, e1], ?_, ?_⟩
    · rw [← hA, slLo, if_neg (by rw [e1]; decide)]
    · rw [← hB1, slHi, if_neg (by rw [e1]; decide)]
  have HE3 : Hid (k = 0 → ∀ c, chF x.cs ch = some c → inB c.year 4000 y = false → E = 1 ∧ A = 0 ∧ B1 = 0) := fun e c hc e' => by
    have e1 : sE x ch y = 1 := by unfold sE; rw [if_neg (by simp [hk, e]), hc, if_neg (by simp), chOr_some hc, if_pos e']
    refine ⟨by rw [← hE, e1], ?_, ?_⟩
    · rw [← hA, slLo, if_neg (by rw [e1]; decide)]
    · rw [← hB1, slHi, if_neg (by rw [e1]; decide)]
  have HE4 : Hid (k = 0 → ∀ c, chF x.cs ch = some c → inB c.year 4000 y = true → E = 0 ∧ (spO x c y).lo = A ∧ (spO x c y).hi = B1) := fun e c hc e' => by
    have e1 : sE x ch y = 0 := sE_at (hk.trans e) hc (inB_iff.1 e')
    refine ⟨by rw [← hE, e1], ?_, ?_⟩
    · rw [← hA, slLo, if_pos e1, chOr_some hc]
    · rw [← hB1, slHi, if_pos e1, chOr_some hc]
  have K4 := fun c : Ch => fun W => Lib.hid (rin_any y c.year 4000 W)
  rw [hk] at K3
  simp only [hk] at K1
  obtain ⟨f, hf⟩ : ∃ f : Ch → Spl, (fun c => spO x c y) = f := ⟨_, rfl⟩
  have hf' : ∀ c, spO x c y = f c := fun c => by rw [← hf]
  simp only [hf'] at K3 HE4
  have HE4 : Hid (k = 0 → ∀ c, chF x.cs ch = some c → inB c.year 4000 y = true → E = 0 ∧ (f c).lo = A ∧ (f c).hi = B1) := HE4
  have HK3 := Lib.hid K3
  clear h hA hB1 hE hk K3 hf hf'
  obtain ⟨cs, ps, rs, q1, q2, q3, c1, c2, c3⟩ := x
  simp only [WA.v] at *
  go_enter Tryz.func22, Tryz.ntmps22
  go_upto_region 1 with fail
  obtain ⟨W0, hW0⟩ : ∃ W0, ((w).alloc (.cells #[.slice q1 cs.length c1, .slice q2 ps.length c2, .slice q3 rs.length c3] 26)).alloc (.cells #[.int .i64 0, .int .i64 0] 30) = W0 := ⟨_, rfl⟩
  have S0 : St w W0 [(w.heap.size + 1, 0, .int .i64 0), (w.heap.size + 1, 1, .int .i64 0), (w.heap.size, 0, .slice q1 cs.length c1), (w.heap.size, 1, .slice q2 ps.length c2), (w.heap.size, 2, .slice q3 rs.length c3)] := by rw [← hW0]; exact (((St.nil w)).box #[.slice q1 cs.length c1, .slice q2 ps.length c2, .slice q3 rs.length c3] 26 (w.heap.size) (by simp)).box #[.int .i64 0, .int .i64 0] 30 (w.heap.size + 1) (by simp)
  rw [hW0]
  clear hW0
  obtain ⟨C, hC0, HC, LC, BC, hne⟩ := cls S0
  haveI := hne
  obtain ⟨c0, rfl⟩ : ∃ n : Wd C, W0 = n.w := ⟨⟨_, hC0⟩, rfl⟩
  have fC0 : ∀ n : Wd C, n.w.cell? ⟨w.heap.size + 1, 0, none⟩ = some (.int .i64 0) := fun n => (LC.out n).1.2.1
  have zC0 : ∀ n : Wd C, n.w.frozen? ⟨w.heap.size + 1, 0, none⟩ = false := fun n => (LC.out n).1.2.2
  have fC1 : ∀ n : Wd C, n.w.cell? ⟨w.heap.size + 1, 1, none⟩ = some (.int .i64 0) := fun n => (LC.out n).2.1.2.1
  have zC1 : ∀ n : Wd C, n.w.frozen? ⟨w.heap.size + 1, 1, none⟩ = false := fun n => (LC.out n).2.1.2.2
  have fC2 : ∀ n : Wd C, n.w.cell? ⟨w.heap.size, 0, none⟩ = some (.slice q1 cs.length c1) := fun n => (LC.out n).2.2.1.2.1
  have fC3 : ∀ n : Wd C, n.w.cell? ⟨w.heap.size, 1, none⟩ = some (.slice q2 ps.length c2) := fun n => (LC.out n).2.2.2.1.2.1
  have fC4 : ∀ n : Wd C, n.w.cell? ⟨w.heap.size, 2, none⟩ = some (.slice q3 rs.length c3) := fun n => (LC.out n).2.2.2.2.1.2.1
  clear S0 hC0
  have D1 := cinL HC BC K1
  clear K1
  by_cases hk0 : k = 0
  · subst hk0
    go_upto_region 4 with (first | first | (go_at_call 24; with_reducible refine (D1 _).out.mono ?_; rintro e w' ⟨rfl, n, rfl⟩))
    go_wp2_with fail
    refine (K2 _ (BC.out _)).mono ?_
    rintro e w1 ⟨⟨m, rfl, hm⟩, hb⟩
    obtain ⟨n2, rfl⟩ : ∃ n : Wd C, w1 = n.w := ⟨⟨_, HC.out _ _ (Wd.h _) hb⟩, rfl⟩
    clear hb K2 D1
    have hsz : w.heap.size + 1 < n2.w.heap.size := (LC.out n2).1.1
    rcases hm with ⟨hz, rfl⟩ | ⟨j, hj, rfl, hc⟩
    · obtain ⟨rfl, rfl, rfl⟩ := HE2.out (by first | rfl | trivial) hz
      clear hz
      go_wp2_with fail
      refine bodyPost_ret (v := .tuple #[spv 0 0, .int .i64 5]) (by simp [results, Tryz.results22, go_sem, fC0, fC1]) rfl ⟨rfl, ?_⟩
      exact set2 (BC.out _) (by omega) _ _
    · rcases H.out with h0 | ⟨b, o, he, hb, hcc⟩
      · exact absurd hj (by simp [show cs = [] from h0])
      obtain rfl : q1 = some ⟨b, o, none⟩ := he
      obtain ⟨d1, d2, d3, d4, d5⟩ := hcc j cs[j] (List.getElem?_eq_getElem hj)
      obtain ⟨c, hcj⟩ : ∃ c, cs[j] = c := ⟨_, rfl⟩
      simp only [show cs[j] = c from hcj] at d1 d2 d3 d4 d5 hc
      have fY0 : ∀ n : Wd C, n.w.cell? ⟨b, o + j * 5, none⟩ = some (.int .i64 c.id) := fun n => ((BC.out n).cell (p := ⟨b, o + j * 5, none⟩) hb).trans d1
      have fY1 : ∀ n : Wd C, n.w.cell? ⟨b, o + j * 5 + 1, none⟩ = some (.int .i64 c.year) := fun n => ((BC.out n).cell (p := ⟨b, o + j * 5 + 1, none⟩) hb).trans d2
      have fY2 : ∀ n : Wd C, n.w.cell? ⟨b, o + j * 5 + 2, none⟩ = some (.int .i64 c.lo) := fun n => ((BC.out n).cell (p := ⟨b, o + j * 5 + 2, none⟩) hb).trans d3
      have fY3 : ∀ n : Wd C, n.w.cell? ⟨b, o + j * 5 + 3, none⟩ = some (.int .i64 c.hi) := fun n => ((BC.out n).cell (p := ⟨b, o + j * 5 + 3, none⟩) hb).trans d4
      have fY4 : ∀ n : Wd C, n.w.cell? ⟨b, o + j * 5 + 4, none⟩ = some (.int .i64 c.wear) := fun n => ((BC.out n).cell (p := ⟨b, o + j * 5 + 4, none⟩) hb).trans d5
      have K5 := K4 c
      have hj2 : (j : Int) < (cs.length : Int) := by omega
      obtain ⟨z, hz⟩ : ∃ z, inB c.year 4000 y = z := ⟨_, rfl⟩
      simp only [hz] at K5
      have HZ := Lib.hid hz
      have HC2 := Lib.hid hc
      clear d1 d2 d3 d4 d5 hcc hb hcj hz hc K4
      cases z
      · obtain ⟨rfl, rfl, rfl⟩ := HE3.out (by first | rfl | trivial) c HC2.out HZ.out
        go_wp2_with (go_at_call 72; with_reducible refine (K5 _).out.mono ?_; rintro e w' ⟨rfl, rfl⟩)
        refine bodyPost_ret (v := .tuple #[spv 0 0, .int .i64 1]) (by simp [results, Tryz.results22, go_sem, fC0, fC1]) rfl ⟨rfl, ?_⟩
        exact set2 (BC.out _) (by omega) _ _
      · obtain ⟨rfl, hA, hB1⟩ := HE4.out (by first | rfl | trivial) c HC2.out HZ.out
        have K6 := HK3.out (by first | rfl | trivial) c HC2.out (inB_iff.1 HZ.out).1
        rw [hA, hB1] at K6
        clear hA hB1
        go_upto_region 9 with (go_at_call 72; with_reducible refine (K5 _).out.mono ?_; rintro e w' ⟨rfl, rfl⟩)
        clear K5
        refine wp_region_vars 8 8 C (fun i => i) (fun _ => .cells #[] 30) HC.out (HC.out _ _ (Wd.h _) (below_dr _)) (by kernel_rfl) (by kernel_rfl) (Nat.le_refl _) (fun i h1 h2 => absurd h1 (by omega)) ?hsl ?hq
        case hsl => rfl
        case hq =>
          apply Exists.intro
          apply And.intro
          · intro D hD hDC hneD
            have HD := Lib.hid hD
            have g0 : ∀ n : Wd D, n.w.cell? ⟨w.heap.size, 0, none⟩ = some (.slice (some ⟨b, o, none⟩) cs.length c1) := fun n => fC2 ⟨n.w, hDC _ n.h⟩
            have g1 : ∀ n : Wd D, n.w.cell? ⟨w.heap.size, 1, none⟩ = some (.slice q2 ps.length c2) := fun n => fC3 ⟨n.w, hDC _ n.h⟩
            have g2 : ∀ n : Wd D, n.w.cell? ⟨w.heap.size, 2, none⟩ = some (.slice q3 rs.length c3) := fun n => fC4 ⟨n.w, hDC _ n.h⟩
            have e0 : ∀ n : Wd D, n.w.cell? ⟨b, o + j * 5, none⟩ = some (.int .i64 c.id) := fun n => fY0 ⟨n.w, hDC _ n.h⟩
            have e1 : ∀ n : Wd D, n.w.cell? ⟨b, o + j * 5 + 1, none⟩ = some (.int .i64 c.year) := fun n => fY1 ⟨n.w, hDC _ n.h⟩
            have e2 : ∀ n : Wd D, n.w.cell? ⟨b, o + j * 5 + 2, none⟩ = some (.int .i64 c.lo) := fun n => fY2 ⟨n.w, hDC _ n.h⟩
            have e3 : ∀ n : Wd D, n.w.cell? ⟨b, o + j * 5 + 3, none⟩ = some (.int .i64 c.hi) := fun n => fY3 ⟨n.w, hDC _ n.h⟩
            have e4 : ∀ n : Wd D, n.w.cell? ⟨b, o + j * 5 + 4, none⟩ = some (.int .i64 c.wear) := fun n => fY4 ⟨n.w, hDC _ n.h⟩
            have HBD : Hid (∀ n : Wd D, Below w.heap.size w n.w) := fun n => BC.out ⟨n.w, hDC _ n.h⟩
            have D6 := cinL HD HBD K6
            haveI := hneD
            simp only [List.take_succ_cons, List.take_zero]
            repeat (go_big_quiet_step (first | with_reducible exact (D6 _).out))
            exact wpQuiet_nil rfl
          · intro W bl hW _ _
            obtain ⟨n0, rfl⟩ : ∃ n : Wd C, W = n.w := ⟨⟨W, hW⟩, rfl⟩
            have hpa : ∀ (f : Nat → Value) (A : Act), putAll (fun i => i) f 0 8 A = A := fun _ _ => rfl
            simp only [List.drop_succ_cons, List.drop_zero, Nat.sub_self, hpa]
            have hs0 : w.heap.size + 1 < n0.w.heap.size := (LC.out n0).1.1
            go_wp2_with fail
            refine bodyPost_ret (v := .tuple #[spv A B1, .int .i64 0]) (by simp [results, Tryz.results22, go_sem, fC0, fC1]) rfl ⟨rfl, ?_⟩
            exact set2 (BC.out _) (by omega) _ _
  · have hb : (k != 0) = true := by simpa using hk0
    obtain ⟨rfl, rfl, rfl⟩ := HE1.out hk0
    clear hk0
    go_wp2_with (first | first | (go_at_call 24; with_reducible refine (D1 _).out.mono ?_; rintro e w' ⟨rfl, n, rfl⟩))
    refine bodyPost_ret (v := .tuple #[spv 0 0, .int .i64 E]) (by simp [results, Tryz.results22, go_sem, fC0, fC1]) rfl ⟨rfl, ?_⟩
    exact set2 (BC.out _) (by omega) _ _
end Go.Proofs.YtcejmfgbfdhflaaGreat
