import Derived.Test.YtcejmfgbfdhflaaGreatEq
import Derived.Test.YtcejmfgbfdhflaaGreatEa
import Derived.Test.YtcejmfgbfdhflaaGreatEb
import Derived.Test.YtcejmfgbfdhflaaGreatEn
import Derived.Test.YtcejmfgbfdhflaaGreatQd
import Derived.Test.YtcejmfgbfdhflaaGreatQe
import Derived.WalkKit
import Derived.LoopTactic
import Derived.WalkSpells
import Derived.WalkLawsBesides
import Derived.Lib.Hide
import Derived.BigQuiet
import Derived.IntWalk
import Derived.Deep.DeepMust
import Derived.WalkSmall
import Derived.StillTailTactics
import Derived.Deep.RegionLaw
import Derived.Deep.RegionHeld3
import Derived.Deep.QuietTactic
namespace Go.Proofs.YtcejmfgbfdhflaaGreat
open Go.RowKit Go.Shelf Go.BigFrame Go.Sort
attribute [local go_sem] World.cell?_alloc_some
/-- Does a spell that has some of the years asked contradict itself? -/
def badS (s : Spl) (lo hi : Int) : Bool := (decide (s.lo ≤ hi) && decide (lo ≤ s.hi)) && !decide (clS s = [])
def badTo (S : Nat → Spl) (lo hi : Int) : Nat → Bool
  | 0 => false
  | j + 1 => badTo S lo hi j || badS (S j) lo hi
theorem badTo_mono {S : Nat → Spl} {lo hi : Int} {j n : Nat} (h : badTo S lo hi j = true) (hj : j ≤ n) : badTo S lo hi n = true := by
  induction n with
  | zero => obtain rfl : j = 0 := by omega
            exact h
  | succ n ih =>
    rcases Nat.lt_or_ge n j with h1 | h1
    · obtain rfl : j = n + 1 := by omega
      exact h
    · simp only [badTo, ih h1, Bool.true_or]
abbrev spA (x : WA) (c : Ch) : Nat → Spl := fun j => spP c (tsO x c) x.ps j
/-- The error of Shortest. -/
def alE (x : WA) (ch lo hi : Int) : Int :=
  if chk x ≠ 0 then chk x else if (chF x.cs ch).isSome = false then 5 else if insB lo hi (chOr x.cs ch).year 4000 = false then 1 else if 400 < hi - lo + 1 then 2 else
  if badTo (spA x (chOr x.cs ch)) lo hi (tsO x (chOr x.cs ch)).length = true then 9 else 0
theorem insB_iff {lo hi a b : Int} : insB lo hi a b = true ↔ lo ≤ hi ∧ a ≤ lo ∧ hi ≤ b := by
  simp [insB]
/-- The spells of a chain, as they lie. -/
structure SpsAt (S : Nat → Spl) (n : Nat) (B : Nat) (W : World) (G : Nat) (xs : List SV) : Prop where
  len : xs.length = n
  lt : G < W.heap.size
  at_ : ∀ (i : Nat) (sv : SV), xs[i]? = some sv → sv.s = S i ∧ okS sv.s = true ∧ SpC W G (i * 4) sv ∧ ThsN B W sv.q sv.s.ths ∧ sv.s.ths.length ≤ sv.cap ∧ sv.cap ≤ maxLen
theorem SpsAt.keep {S : Nat → Spl} {n B G : Nat} {W W' : World} {xs : List SV} (h : SpsAt S n B W G xs) (hb : Below W.heap.size W W') : SpsAt S n B W' G xs :=
  ⟨h.len, Nat.lt_of_lt_of_le h.lt hb.size, fun i sv hi => by
    obtain ⟨k1, k2, k3, k4, k5, k6⟩ := h.at_ i sv hi
    exact ⟨k1, k2, k3.keep hb, k4.keep hb, k5, k6⟩⟩
/-- What agreedAll finds. -/
structure AlRes (x : WA) (c : Ch) (E : Int) (B : Nat) (W : World) (v : Value) : Prop where
  no : E ≠ 0 → v = .slice none 0 0
  ok : E = 0 → ∃ (G n : Nat) (xs : List SV), v = .slice (some ⟨G, 0, none⟩) n n ∧ n = (tsO x c).length ∧ n ≤ 61 ∧ SpsAt (spA x c) n B W G xs
set_option maxRecDepth 100000 in
set_option maxHeartbeats 6400000 in
theorem agreedAll_any (x : WA) (ch lo hi : Int) (w : World) (h : x.At w) :
    Calls Tryz.prog 130 #[x.v, .int .i64 ch, spv lo hi] w fun e w' => (∃ v, e = .returned (.tuple #[v, .int .i64 (alE x ch lo hi)]) ∧ AlRes x (chOr x.cs ch) (alE x ch lo hi) w.heap.size w' v) ∧ Below w.heap.size w w' := by
  have K1 := fun W (hb : Below w.heap.size w W) => Check_any x W (h.keep hb)
  have K2 := fun W (hb : Below w.heap.size w W) => chainOf_any x.q1 x.c1 x.cs ch W h.n1 (h.cs.keep hb)
  obtain ⟨E, hE⟩ : ∃ E, alE x ch lo hi = E := ⟨_, rfl⟩
  rw [hE]
  obtain ⟨k, hk⟩ : ∃ k, chk x = k := ⟨_, rfl⟩
  obtain ⟨c, hc⟩ : ∃ c, chOr x.cs ch = c := ⟨_, rfl⟩
  obtain ⟨z1, h1⟩ : ∃ z, (chF x.cs ch).isSome = z := ⟨_, rfl⟩
  obtain ⟨z2, h2⟩ : ∃ z, insB lo hi c.year 4000 = z := ⟨_, rfl⟩
  have hS := hE
  unfold alE at hS
  rw [hk, hc, h1, h2] at hS
  simp only [hk] at K1
  simp only [hc, h1] at K2
  rw [hc]
  have K3 := fun W => yearsOf_any c W
  have K4 := fun W => inside_any lo hi c.year 4000 W
  simp only [h2] at K4
  have HY : Hid (k = 0 → z1 = true → z2 = true → 0 ≤ lo ∧ lo ≤ hi ∧ hi ≤ 4000) := fun e1 e2 e3 => by
    have hw := okW_of (hk.trans e1)
    obtain ⟨c', hc'⟩ := Option.isSome_iff_exists.1 (h1.trans e2)
    have : c' = c := by rw [← hc, chOr_some hc']
    subst this
    have hkk := okCh_iff.1 (okC_of hw hc').ok
    have hyy := insB_iff.1 (h2.trans e3)
    omega
  have K5 : k = 0 → z1 = true → ∀ W, Below w.heap.size w W → Calls Tryz.prog 115 #[x.v, c.v] W fun e w' => (∃ (G n : Nat) (xs : List SV), e = .returned (.slice (some ⟨G, 0, none⟩) n n) ∧ n = (tsO x c).length ∧ n ≤ 61 ∧ Hid (SpsAt (spA x c) n w.heap.size w' G xs)) ∧ Below W.heap.size W w' := fun e1 e2 W hb => by
    have hw := okW_of (hk.trans e1)
    obtain ⟨c', hc'⟩ := Option.isSome_iff_exists.1 (h1.trans e2)
    have : c' = c := by rw [← hc, chOr_some hc']
    subst this
    have hkc := okC_of hw hc'
    have hok := begs_ok hkc
    refine (spells_any x c' W (h.keep hb) (fun p hp e => (hkc.py p hp e).1) (fun t ht => (okTh_iff.1 (hok t ht).1).1)).mono ?_
    rintro e w' ⟨⟨G, n, ts, xs, rfl, hp, hs, hl1, hl2, hG, hmap, hat⟩, hb2⟩
    have hts : ts = tsO x c' := srtB_uniq (begs_ne hw hkc) hp hs
    subst hts
    refine ⟨⟨G, n, xs, rfl, hl1.symm, hl1 ▸ ts_len hw c', hl2, hG, fun i sv hi => ?_⟩, hb2⟩
    have hin : i < n := by rw [← hl2]; exact (List.getElem?_eq_some_iff.1 hi).1
    have hss : sv.s = spP c' (tsO x c') x.ps i := by
      have h5 : (xs.map (·.s))[i]? = some sv.s := by rw [List.getElem?_map, hi]; rfl
      rw [hmap, List.getElem?_map, List.getElem?_range hin] at h5
      exact (Option.some.inj h5).symm
    obtain ⟨k1, k2, k3, k4⟩ := hat i sv hi
    exact ⟨hss, by rw [hss]; exact spP_ok hw hkc i (by omega), k1, k2.base hb.size, k3, k4⟩
  obtain ⟨S, hSS⟩ : ∃ S, spA x c = S := ⟨_, rfl⟩
  obtain ⟨T, hT⟩ : ∃ T, (tsO x c).length = T := ⟨_, rfl⟩
  rw [hSS, hT] at hS
  simp only [hSS, hT] at K5
  have AR : Hid (∀ W v, (E ≠ 0 → v = .slice none 0 0) → (E = 0 → ∃ (G n : Nat) (xs : List SV), v = .slice (some ⟨G, 0, none⟩) n n ∧ n = T ∧ n ≤ 61 ∧ SpsAt S n w.heap.size W G xs) → AlRes x c E w.heap.size W v) := fun W v a b => ⟨a, fun e => by
    rw [hSS, hT]; exact b e⟩
  have HS := Lib.hid hS
  have HK5 := Lib.hid K5
  clear h hE hS hk hc h1 h2 K5 hSS hT
  obtain ⟨R, hR⟩ : ∃ R : World → Value → Prop, AlRes x c E w.heap.size = R := ⟨_, rfl⟩
  rw [hR] at AR ⊢
  clear hR
  obtain ⟨cs, ps, rs, q1, q2, q3, c1, c2, c3⟩ := x
  simp only [WA.v] at *
  go_enter Tryz.func130, Tryz.ntmps130
  go_wp2_with fail
  obtain ⟨W0, hW0⟩ : ∃ W0, ((w).alloc (.cells #[.slice q1 cs.length c1, .slice q2 ps.length c2, .slice q3 rs.length c3] 26)).alloc (.cells #[.int .i64 lo, .int .i64 hi] 30) = W0 := ⟨_, rfl⟩
  have S0 : St w W0 [(w.heap.size + 1, 0, .int .i64 lo), (w.heap.size + 1, 1, .int .i64 hi), (w.heap.size, 0, .slice q1 cs.length c1), (w.heap.size, 1, .slice q2 ps.length c2), (w.heap.size, 2, .slice q3 rs.length c3)] := by rw [← hW0]; exact (((St.nil w)).box #[.slice q1 cs.length c1, .slice q2 ps.length c2, .slice q3 rs.length c3] 26 (w.heap.size) (by simp)).box #[.int .i64 lo, .int .i64 hi] 30 (w.heap.size + 1) (by simp)
  rw [hW0]
  clear hW0
  obtain ⟨C, hC0, HC, LC, BC, hne⟩ := cls S0
  haveI := hne
  obtain ⟨c0, rfl⟩ : ∃ n : Wd C, W0 = n.w := ⟨⟨_, hC0⟩, rfl⟩
  have fC0 : ∀ n : Wd C, n.w.cell? ⟨w.heap.size + 1, 0, none⟩ = some (.int .i64 lo) := fun n => (LC.out n).1.2.1
  have fC1 : ∀ n : Wd C, n.w.cell? ⟨w.heap.size + 1, 1, none⟩ = some (.int .i64 hi) := fun n => (LC.out n).2.1.2.1
  have fC2 : ∀ n : Wd C, n.w.cell? ⟨w.heap.size, 0, none⟩ = some (.slice q1 cs.length c1) := fun n => (LC.out n).2.2.1.2.1
  have fC3 : ∀ n : Wd C, n.w.cell? ⟨w.heap.size, 1, none⟩ = some (.slice q2 ps.length c2) := fun n => (LC.out n).2.2.2.1.2.1
  have fC4 : ∀ n : Wd C, n.w.cell? ⟨w.heap.size, 2, none⟩ = some (.slice q3 rs.length c3) := fun n => (LC.out n).2.2.2.2.1.2.1
  clear S0 hC0
  have D1 := cinL HC BC K1
  have D2 := cinL HC BC K2
  clear K1 K2
  by_cases hk0 : k = 0
  · subst hk0
    rw [if_neg (by simp)] at HS
    go_wp2_with (first | first | (go_at_call 23; with_reducible refine (D1 _).out.mono ?_; rintro e w' ⟨rfl, n, rfl⟩))
    refine (D2 _).out.mono ?_
    rintro e w' ⟨rfl, m, rfl⟩
    go_upto_region 5 with fail
    obtain ⟨W0, hW0⟩ : ∃ W0, (m.w).alloc (.cells #[.int .i64 c.id, .int .i64 c.year, .int .i64 c.lo, .int .i64 c.hi, .int .i64 c.wear] 90) = W0 := ⟨_, rfl⟩
    have S0 : St w W0 [(m.w.heap.size, 0, .int .i64 c.id), (m.w.heap.size, 1, .int .i64 c.year), (m.w.heap.size, 2, .int .i64 c.lo), (m.w.heap.size, 3, .int .i64 c.hi), (m.w.heap.size, 4, .int .i64 c.wear), (w.heap.size + 1, 0, .int .i64 lo), (w.heap.size + 1, 1, .int .i64 hi), (w.heap.size, 0, .slice q1 cs.length c1), (w.heap.size, 1, .slice q2 ps.length c2), (w.heap.size, 2, .slice q3 rs.length c3)] := by rw [← hW0]; exact ((⟨BC.out m, LC.out m⟩ : St w m.w _)).box #[.int .i64 c.id, .int .i64 c.year, .int .i64 c.lo, .int .i64 c.hi, .int .i64 c.wear] 90 (m.w.heap.size) (by simp)
    rw [hW0]
    clear hW0
    obtain ⟨kD, hkk⟩ : ∃ k, m.w.heap.size = k := ⟨_, rfl⟩
    have gkD : w.heap.size ≤ kD := by rw [← hkk]; exact (BC.out m).size
    rw [hkk] at S0 ⊢
    clear hkk
    obtain ⟨D, hC0, HD, LD, BD, hne⟩ := cls S0
    haveI := hne
    obtain ⟨d0, rfl⟩ : ∃ n : Wd D, W0 = n.w := ⟨⟨_, hC0⟩, rfl⟩
    have fD0 : ∀ n : Wd D, n.w.cell? ⟨kD, 0, none⟩ = some (.int .i64 c.id) := fun n => (LD.out n).1.2.1
    have fD1 : ∀ n : Wd D, n.w.cell? ⟨kD, 1, none⟩ = some (.int .i64 c.year) := fun n => (LD.out n).2.1.2.1
    have fD2 : ∀ n : Wd D, n.w.cell? ⟨kD, 2, none⟩ = some (.int .i64 c.lo) := fun n => (LD.out n).2.2.1.2.1
    have fD3 : ∀ n : Wd D, n.w.cell? ⟨kD, 3, none⟩ = some (.int .i64 c.hi) := fun n => (LD.out n).2.2.2.1.2.1
    have fD4 : ∀ n : Wd D, n.w.cell? ⟨kD, 4, none⟩ = some (.int .i64 c.wear) := fun n => (LD.out n).2.2.2.2.1.2.1
    have fD5 : ∀ n : Wd D, n.w.cell? ⟨w.heap.size + 1, 0, none⟩ = some (.int .i64 lo) := fun n => (LD.out n).2.2.2.2.2.1.2.1
    have fD6 : ∀ n : Wd D, n.w.cell? ⟨w.heap.size + 1, 1, none⟩ = some (.int .i64 hi) := fun n => (LD.out n).2.2.2.2.2.2.1.2.1
    have fD7 : ∀ n : Wd D, n.w.cell? ⟨w.heap.size, 0, none⟩ = some (.slice q1 cs.length c1) := fun n => (LD.out n).2.2.2.2.2.2.2.1.2.1
    have fD8 : ∀ n : Wd D, n.w.cell? ⟨w.heap.size, 1, none⟩ = some (.slice q2 ps.length c2) := fun n => (LD.out n).2.2.2.2.2.2.2.2.1.2.1
    have fD9 : ∀ n : Wd D, n.w.cell? ⟨w.heap.size, 2, none⟩ = some (.slice q3 rs.length c3) := fun n => (LD.out n).2.2.2.2.2.2.2.2.2.1.2.1
    clear S0 hC0
    clear D1 D2
    cases z1
    · rw [if_pos rfl] at HS
      obtain rfl : 5 = E := HS.out
      go_wp2_with fail
      refine bodyPost_ret (v := .tuple #[.slice none 0 0, .int .i64 5]) (by simp [results, Tryz.results130, go_sem]) rfl ?_
      exact ⟨⟨_, rfl, AR.out _ _ (fun _ => rfl) (fun e => by cases e)⟩, BD.out _⟩
    · rw [if_neg (by simp)] at HS
      have E1 := cin HD fun W => Calls.be (K3 W)
      have E2 := cin HD fun W => Calls.be (K4 W)
      clear K3 K4
      go_upto_region 7 with fail
      refine wp_region_in D (HD.out _ _ (Wd.h _) (below_dr _)) (by kernel_rfl) (by kernel_rfl) ?_
      repeat (go_big_quiet_step (first | with_reducible exact (E1 _).out | with_reducible exact (E2 _).out))
      refine wpQuiet_nil ?_
      intro wx hwx
      obtain ⟨n, rfl⟩ : ∃ n : Wd D, wx = n.w := ⟨⟨wx, hwx⟩, rfl⟩
      clear hwx
      clear E1 E2
      cases z2
      · rw [if_pos rfl] at HS
        obtain rfl : 1 = E := HS.out
        go_wp2_with fail
        refine bodyPost_ret (v := .tuple #[.slice none 0 0, .int .i64 1]) (by simp [results, Tryz.results130, go_sem]) rfl ?_
        exact ⟨⟨_, rfl, AR.out _ _ (fun _ => rfl) (fun e => by cases e)⟩, BD.out _⟩
      · rw [if_neg (by simp)] at HS
        obtain ⟨y1, y2, y3⟩ := HY.out (by first | rfl | trivial) (by first | rfl | trivial) (by first | rfl | trivial)
        have M1 := cin HD fun W => Calls.be (width_any lo hi W (by omega))
        by_cases hw4 : 400 < hi - lo + 1
        · rw [if_pos hw4] at HS
          obtain rfl : 2 = E := HS.out
          clear HY
          go_wp2_with (first | first | (go_at_call 184; with_reducible refine (M1 _).out.mono ?_; rintro e w' ⟨rfl, n, rfl⟩))
          refine bodyPost_ret (v := .tuple #[.slice none 0 0, .int .i64 2]) (by simp [results, Tryz.results130, go_sem]) rfl ?_
          exact ⟨⟨_, rfl, AR.out _ _ (fun _ => rfl) (fun e => by cases e)⟩, BD.out _⟩
        · rw [if_neg hw4] at HS
          clear HY
          go_wp2_with (first | first | (go_at_call 184; with_reducible refine (M1 _).out.mono ?_; rintro e w' ⟨rfl, n, rfl⟩))
          refine (HK5.out (by first | rfl | trivial) (by first | rfl | trivial) _ (BD.out _)).mono ?_
          rintro e w1 ⟨⟨G, n, xs, rfl, hnT, hn, hsp⟩, hb⟩
          have hW : Hid (Below w.heap.size w w1) := (BD.out _).trans (hb.mono (BD.out _).size)
          have S1 : St w w1 [(kD, 0, .int .i64 c.id), (kD, 1, .int .i64 c.year), (kD, 2, .int .i64 c.lo), (kD, 3, .int .i64 c.hi), (kD, 4, .int .i64 c.wear), (w.heap.size + 1, 0, .int .i64 lo), (w.heap.size + 1, 1, .int .i64 hi), (w.heap.size, 0, .slice q1 cs.length c1), (w.heap.size, 1, .slice q2 ps.length c2), (w.heap.size, 2, .slice q3 rs.length c3)] := ⟨hW, LD.out ⟨_, HD.out _ _ (Wd.h _) hb⟩⟩
          have HS1 := Lib.hid S1
          have HSP := hsp
          have HN := Lib.hid (And.intro hnT hn)
          clear hb hsp hnT S1 HD LD BD HC LC BC fC0 fC1 fC2 fC3 fC4 fD0 fD1 fD2 fD3 fD4 fD5 fD6 fD7 fD8 fD9 M1
          go_wp2_with fail
          go_loopw [42] (fun i wr => ∃ (j : Nat), Below w1.heap.size w1 wr ∧ i = .int .i64 (j : Int) ∧ j ≤ n ∧ badTo S lo hi j = false) (fun i wr => n - (intOf i).toNat)
          case atStart => exact ⟨0, Below.refl _ _, rfl, Nat.zero_le _, rfl⟩
          case round =>
            obtain ⟨j, hB2, rfl, hj, hbad⟩ := hrel
            have HB2 := Lib.hid hB2
            have HBAD := Lib.hid hbad
            clear hbad
            by_cases hlt2 : j < n
            · have hjx : j < xs.length := by have := HSP.out.len; omega
              obtain ⟨k1, k2, k3, k4, k5, k6⟩ := HSP.out.at_ j xs[j] (List.getElem?_eq_getElem hjx)
              obtain ⟨sv, hsv⟩ : ∃ sv, xs[j] = sv := ⟨_, rfl⟩
              rw [hsv] at k1 k2 k3 k4 k5 k6
              obtain ⟨m1, m2, m3, m4⟩ := k3.keep hB2
              obtain ⟨-, -, -, -, -, ⟨-, f6, -⟩, ⟨-, f7, -⟩, -⟩ := (HS1.out.next hB2).c
              have HT : Hid (ThsAt wr sv.q sv.s.ths) := (k4.keep hB2).ths
              have HST : Hid (badTo S lo hi (j + 1) = badS sv.s lo hi) := by unfold Hid; rw [k1]; simp [badTo, HBAD.out]
              have HCC : Hid (∀ W, ThsAt W sv.q sv.s.ths → Calls Tryz.prog 116 #[sv.s.v sv.q sv.cap] W fun e w' => e = .returned (.bool (decide (clS sv.s = []))) ∧ Below W.heap.size W w') := fun W hth => agrees_any sv.s sv.q sv.cap W k2 k5 k6 hth
              obtain ⟨⟨slo, shi, swe, sth⟩, sq, sc⟩ := sv
              simp only [Spl.v] at *
              unfold badS at HST
              obtain ⟨z, hz⟩ : ∃ z, decide (clS ⟨slo, shi, swe, sth⟩ = []) = z := ⟨_, rfl⟩
              rw [hz] at HST
              simp only [hz] at HCC
              have hlt2' : (j : Int) < (n : Int) := by omega
              clear k1 k2 k3 k4 k5 k6 hsv hB2 hz
              by_cases b1 : slo ≤ hi
              · by_cases b2 : lo ≤ shi
                · rw [show (decide (slo ≤ hi) && decide (lo ≤ shi)) = true from by simp [b1, b2], Bool.true_and] at HST
                  have b2' : shi ≥ lo := b2
                  go_wp2_with fail
                  refine (HCC.out _ (HT.out.keep (below_al _ _))).mono ?_
                  rintro e w2 ⟨rfl, hb3⟩
                  have HB3 : Hid (Below w1.heap.size w1 w2) := HB2.out.trans (((below_al _ _).trans (hb3.mono (by simp))).mono HB2.out.size)
                  clear hb3 m1 m2 m3 m4 f6 f7
                  cases z
                  · go_wp2_with fail
                    have hbd : badTo S lo hi n = true := badTo_mono (by rw [HST.out]; rfl) hlt2
                    rw [if_pos (by rw [← HN.out.1]; exact hbd)] at HS
                    obtain rfl : 9 = E := HS.out
                    refine bodyPost_ret (v := .tuple #[.slice none 0 0, .int .i64 9]) (by simp [results, Tryz.results130, go_sem]) rfl ?_
                    exact ⟨⟨_, rfl, AR.out _ _ (fun _ => rfl) (fun e => by cases e)⟩, hW.out.trans (HB3.out.mono hW.out.size)⟩
                  · go_wp2_with fail
                    go_roundw
                    case rel => exact ⟨j + 1, HB3.out, by simp, hlt2, by rw [HST.out]; rfl⟩
                    case measure => simp [intOf]; omega
                · rw [show (decide (slo ≤ hi) && decide (lo ≤ shi)) = false from by simp [b2], Bool.false_and] at HST
                  have b2' : ¬ shi ≥ lo := b2
                  go_wp2_with fail
                  go_roundw
                  case rel => exact ⟨j + 1, HB2.out.trans ((below_al _ _).mono HB2.out.size), by simp, hlt2, HST.out⟩
                  case measure => simp [intOf]; omega
              · rw [show (decide (slo ≤ hi) && decide (lo ≤ shi)) = false from by simp [b1], Bool.false_and] at HST
                go_wp2_with fail
                go_roundw
                case rel => exact ⟨j + 1, HB2.out.trans ((below_al _ _).mono HB2.out.size), by simp, hlt2, HST.out⟩
                case measure => simp [intOf]; omega
            · obtain rfl : j = n := by omega
              clear hB2
              go_wp2_with fail
              rw [if_neg (by have e := HBAD.out; rw [HN.out.1] at e; rw [e]; simp)] at HS
              obtain rfl : 0 = E := HS.out
              refine bodyPost_ret (v := .tuple #[.slice (some ⟨G, 0, none⟩) j j, .int .i64 0]) (by simp [results, Tryz.results130, go_sem]) rfl ?_
              exact ⟨⟨_, rfl, AR.out _ _ (fun e => absurd rfl e) (fun _ => ⟨G, j, xs, rfl, HN.out.1, HN.out.2, HSP.out.keep HB2.out⟩)⟩, hW.out.trans (HB2.out.mono hW.out.size)⟩
  · have hb : (k != 0) = true := by simpa using hk0
    have HK := Lib.hid hk0
    obtain rfl : k = E := by have := HS.out; rwa [if_pos hk0] at this
    clear hk0
    go_wp2_with (first | first | (go_at_call 23; with_reducible refine (D1 _).out.mono ?_; rintro e w' ⟨rfl, n, rfl⟩))
    refine bodyPost_ret (v := .tuple #[.slice none 0 0, .int .i64 k]) (by simp [results, Tryz.results130, go_sem]) rfl ?_
    exact ⟨⟨_, rfl, AR.out _ _ (fun _ => rfl) (fun e => absurd e HK.out)⟩, BC.out _⟩
end Go.Proofs.YtcejmfgbfdhflaaGreat
