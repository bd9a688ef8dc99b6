import Derived.Test.YtcejmfgbfdhflaaGreatCf
import Derived.WalkKit
import Derived.LoopTactic
import Derived.WalkSpells
import Derived.WalkLawsBesides
import Derived.Lib.Hide
import Derived.BigQuiet
import Derived.IntWalk
import Derived.Deep.DeepMust
import Derived.WalkSmall
import Derived.StillTailTactics
import Derived.Deep.RegionLaw
import Derived.Deep.RegionHeld3
import Derived.Deep.QuietTactic
namespace Go.Proofs.YtcejmfgbfdhflaaGreat
open Go.RowKit Go.BigFrame Go.Sort
attribute [local go_sem] World.cell?_alloc_some
def chkPs (cs : List Ch) (pre : List Int) : List Pf → Int
  | [] => 0
  | p :: r => if okPf cs p = false then 1 else if pre.contains p.id = true then 6 else chkPs cs (pre ++ [p.id]) r
def chkRs (cs : List Ch) (ids : List Int) (pre : List Pf) : List Pf → Int
  | [] => 0
  | p :: r => if okRp cs p = false then 1 else if (ids.contains p.id || repB pre p) = true then 6 else chkRs cs (ids ++ [p.id]) (pre ++ [p]) r
/-- The first error of works. -/
def chk (x : WA) : Int :=
  if (decide (20 < x.cs.length) || decide (60 < x.ps.length + x.rs.length)) = true then 2
  else if chkCs [] x.cs ≠ 0 then chkCs [] x.cs
  else if chkPs x.cs [] x.ps ≠ 0 then chkPs x.cs [] x.ps
  else chkRs x.cs (x.ps.map (·.id)) [] x.rs
theorem chkPs_step (cs : List Ch) (l : List Pf) (k : Nat) (h : k < l.length) : chkPs cs ((l.take k).map (·.id)) (l.drop k) = if okPf cs l[k] = false then 1 else if ((l.take k).map (·.id)).contains l[k].id = true then 6 else chkPs cs ((l.take (k + 1)).map (·.id)) (l.drop (k + 1)) := by
  rw [List.drop_eq_getElem_cons h, take_snocG l k h, List.map_append]
  rfl
theorem chkRs_step (cs : List Ch) (i0 : List Int) (l : List Pf) (k : Nat) (h : k < l.length) : chkRs cs (i0 ++ (l.take k).map (·.id)) (l.take k) (l.drop k) = if okRp cs l[k] = false then 1 else if ((i0 ++ (l.take k).map (·.id)).contains l[k].id || repB (l.take k) l[k]) = true then 6 else chkRs cs (i0 ++ (l.take (k + 1)).map (·.id)) (l.take (k + 1)) (l.drop (k + 1)) := by
  rw [List.drop_eq_getElem_cons h, take_snocG l k h, List.map_append, ← List.append_assoc]
  rfl
theorem IntsAt.take {W : World} {p : Option Addr} {l : List Int} (h : IntsAt W p l) (k : Nat) : IntsAt W p (l.take k) := by
  rcases h with rfl | ⟨b, o, rfl, hlt, hc⟩
  · exact Or.inl (by simp)
  · exact Or.inr ⟨b, o, rfl, hlt, fun j q hq => hc j q (by rw [List.getElem?_take] at hq; split at hq; exact hq; cases hq)⟩
theorem OI.shape {W : World} {B : Nat} {v : Value} {l : List Int} (h : OI W B v l) : ∃ q cap, v = .slice q l.length cap ∧ IntsAt W q l ∧ l.length ≤ cap ∧ cap ≤ maxLen := by
  obtain ⟨q, cap, rfl, h2, h3⟩ := OI.ints h
  refine ⟨q, cap, rfl, h2, ?_⟩
  obtain ⟨_, ⟨e, h4⟩ | ⟨g, c, cur, e, _, _, h5, h6, _⟩⟩ := h
  · injection e with e1 e2 e3; subst e3; rw [h4]; exact ⟨Nat.le_refl _, Nat.zero_le _⟩
  · injection e with e1 e2 e3; subst e3; exact ⟨h5, h6⟩
theorem clsF {w W0 : World} {L : List (Nat × Nat × Value)} (S : St w W0 L) : ∃ C : World → Prop, C W0 ∧ Hid (∀ W W', C W → Below W.heap.size W W' → C W') ∧ Hid (∀ n : Wd C, Cs n.w L) ∧ Hid (∀ n : Wd C, Below w.heap.size w n.w) ∧ Nonempty (Wd C) ∧ Hid (∀ W, Below w.heap.size w W → Cs W L → C W) :=
  ⟨fun W => St w W L, S, fun _ _ h hb => h.next hb, fun n => n.h.c, fun n => n.h.b, ⟨⟨W0, S⟩⟩, fun _ h1 h2 => ⟨h1, h2⟩⟩
set_option maxRecDepth 100000 in
set_option maxHeartbeats 6400000 in
theorem Check_any (x : WA) (w : World) (h : x.At w) : Calls Tryz.prog 23 #[x.v] w fun e w' => e = .returned (.int .i64 (chk x)) ∧ Below w.heap.size w w' := by
  have K1 := fun W (hb : Below w.heap.size w W) => tooMany_any x W (h.keep hb)
  have K2 := fun W (hb : Below w.heap.size w W) => checkChains_any x.q1 x.c1 x.cs W h.n1 h.k1 h.m1 (h.cs.keep hb)
  have K3 := fun W (hb : Below w.heap.size w W) => idsOf_any x W (h.keep hb)
  have K4 := fun W (hb : Below w.heap.size w W) (p : Pf) => validProof_any x p W (h.keep hb)
  have K5 := fun W (hb : Below w.heap.size w W) (p : Pf) => validRepair_any x p W (h.keep hb)
  have H := Lib.hid h
  obtain ⟨E, hE⟩ : ∃ E, chk x = E := ⟨_, rfl⟩
  have HE := Lib.hid hE
  rw [hE]
  have n1 := h.n1
  have n2 := h.n2
  have n3 := h.n3
  have k3 := h.k3
  have m3 := h.m3
  unfold maxLen at m3
  obtain ⟨x0, h0⟩ : ∃ b, (decide (20 < x.cs.length) || decide (60 < x.ps.length + x.rs.length)) = b := ⟨_, rfl⟩
  simp only [h0] at K1
  have H0 := Lib.hid h0
  obtain ⟨e1, h1⟩ : ∃ b, chkCs [] x.cs = b := ⟨_, rfl⟩
  simp only [h1] at K2
  have H1 := Lib.hid h1
  clear h hE h0 h1
  obtain ⟨cs, ps, rs, q1, q2, q3, c1, c2, c3⟩ := x
  simp only [WA.v] at *
  go_enter Tryz.func23, Tryz.ntmps23
  go_wp2_with fail
  obtain ⟨W0, hW0⟩ : ∃ W0, (w).alloc (.cells #[.slice q1 cs.length c1, .slice q2 ps.length c2, .slice q3 rs.length c3] 26) = W0 := ⟨_, rfl⟩
  have S0 : St w W0 [(w.heap.size, 0, .slice q1 cs.length c1), (w.heap.size, 1, .slice q2 ps.length c2), (w.heap.size, 2, .slice q3 rs.length c3)] := by rw [← hW0]; exact ((St.nil w)).box #[.slice q1 cs.length c1, .slice q2 ps.length c2, .slice q3 rs.length c3] 26 (w.heap.size) (by simp)
  rw [hW0]
  clear hW0
  obtain ⟨C, hC0, HC, LC, BC, hne⟩ := cls S0
  haveI := hne
  obtain ⟨c0, rfl⟩ : ∃ n : Wd C, W0 = n.w := ⟨⟨_, hC0⟩, rfl⟩
  have fC0 : ∀ n : Wd C, n.w.cell? ⟨w.heap.size, 0, none⟩ = some (.slice q1 cs.length c1) := fun n => (LC.out n).1.2.1
  have fC1 : ∀ n : Wd C, n.w.cell? ⟨w.heap.size, 1, none⟩ = some (.slice q2 ps.length c2) := fun n => (LC.out n).2.1.2.1
  have fC2 : ∀ n : Wd C, n.w.cell? ⟨w.heap.size, 2, none⟩ = some (.slice q3 rs.length c3) := fun n => (LC.out n).2.2.1.2.1
  clear S0 hC0
  have D1 := cinL HC BC K1
  have D2 := cinL HC BC K2
  clear K1 K2
  cases x0
  · by_cases he : e1 = 0
    · subst he
      have HE1 : Hid (∀ f, f ≠ 0 → chkPs cs [] ps = f → E = f) := fun f hf e => by
        rw [← HE.out, chk, if_neg (by rw [H0.out]; simp), H1.out, if_neg (by simp)]
        simp only [e]
        rw [if_pos hf]
      have HE2 : Hid (chkPs cs [] ps = 0 → E = chkRs cs (ps.map (·.id)) [] rs) := fun e => by
        rw [← HE.out, chk, if_neg (by rw [H0.out]; simp), H1.out, if_neg (by simp)]
        simp only [e]
        rw [if_neg (by simp)]
      clear HE
      go_wp2_with (first | first | (go_at_call 74; with_reducible refine (D1 _).out.mono ?_; rintro e w' ⟨rfl, n, rfl⟩) | (go_at_call 75; with_reducible refine (D2 _).out.mono ?_; rintro e w' ⟨rfl, n, rfl⟩))
      refine (K3 _ (BC.out _)).mono ?_
      rintro e w1 ⟨v, rfl, hO, hg⟩
      have S1 : St w1 w1 [(w.heap.size, 0, .slice q1 cs.length c1), (w.heap.size, 1, .slice q2 ps.length c2), (w.heap.size, 2, .slice q3 rs.length c3)] := ⟨Below.refl _ _, (LC.out _).keep hg⟩
      have hW : Hid (Below w.heap.size w w1) := (BC.out _).trans (hg.mono (BC.out _).size)
      clear hg K3
      clear D1 D2 HC LC BC fC0 fC1 fC2 hne
      obtain ⟨qi, ci, rfl, hI, hci, hcm⟩ := OI.shape hO
      unfold maxLen at hcm
      have HI : Hid (IntsAt w1 qi (ps.map (·.id) ++ rs.map (·.id))) := hI
      clear hI hO
      obtain ⟨D, hC0, HD, LD, BD, hne, FD⟩ := clsF S1
      haveI := hne
      obtain ⟨d0, rfl⟩ : ∃ n : Wd D, w1 = n.w := ⟨⟨_, hC0⟩, rfl⟩
      have fD0 : ∀ n : Wd D, n.w.cell? ⟨w.heap.size, 0, none⟩ = some (.slice q1 cs.length c1) := fun n => (LD.out n).1.2.1
      have fD1 : ∀ n : Wd D, n.w.cell? ⟨w.heap.size, 1, none⟩ = some (.slice q2 ps.length c2) := fun n => (LD.out n).2.1.2.1
      have fD2 : ∀ n : Wd D, n.w.cell? ⟨w.heap.size, 2, none⟩ = some (.slice q3 rs.length c3) := fun n => (LD.out n).2.2.1.2.1
      clear S1 hC0
      have HW : Hid (∀ n : Wd D, Below w.heap.size w n.w) := fun n => hW.out.trans ((BD.out n).mono hW.out.size)
      simp only [WA.ids, List.length_append, List.length_map] at hci ⊢
      go_wp2_with fail
      clear fD0 fD1 fD2
      go_loopw [22] (fun i wr => ∃ (k : Nat) (n : Wd D), wr = n.w ∧ i = .int .i64 (k : Int) ∧ k ≤ ps.length ∧ Hid (chkPs cs ((ps.take k).map (·.id)) (ps.drop k) = chkPs cs [] ps)) (fun i wr => ps.length - (intOf i).toNat)
      case atStart => exact ⟨0, d0, rfl, rfl, Nat.zero_le _, rfl⟩
      case round =>
        obtain ⟨k, n, rfl, rfl, hk, HP⟩ := hrel
        by_cases hlt : k < ps.length
        · have HP2 : Hid (_ = chkPs cs [] ps) := (chkPs_step cs ps k hlt).symm.trans HP.out
          clear HP
          rcases (H.out.ps.keep (HW.out n)) with h0 | ⟨b, o, he, hb, hc⟩
          · exact absurd hlt (by simp [show ps = [] from h0])
          obtain rfl : q2 = some ⟨b, o, none⟩ := he
          obtain ⟨b1, b2, b3, b4, b5⟩ := hc k ps[k] (List.getElem?_eq_getElem hlt)
          have C3 := fun W hb => K4 W hb ps[k]
          obtain ⟨p, hp⟩ : ∃ p, ps[k] = p := ⟨_, rfl⟩
          simp only [hp] at b1 b2 b3 b4 b5 C3
          rw [hp] at HP2
          obtain ⟨x1, h1⟩ : ∃ b, okPf cs p = b := ⟨_, rfl⟩
          obtain ⟨x2, h2⟩ : ∃ b, ((ps.take k).map (·.id)).contains p.id = b := ⟨_, rfl⟩
          have C4 : ∀ W, Below d0.w.heap.size d0.w W → Calls Tryz.prog 78 #[.slice qi k ci, .int .i64 p.id] W fun e w' => e = .returned (.bool x2) ∧ W = w' := fun W hW => by
            have := hasI_any qi ci ((ps.take k).map (·.id)) p.id k (by simp; omega) W (by omega) (by
              have := (HI.out.keep hW).take k
              rwa [show (ps.map (·.id) ++ rs.map (·.id)).take k = (ps.take k).map (·.id) from by rw [List.take_append_of_le_length (by simp; omega), List.map_take]] at this)
            rwa [h2] at this
          rw [h1, h2] at HP2
          simp only [h1] at C3
          have hlt' : (k : Int) < (ps.length : Int) := by omega
          have hkc : (k : Int) ≤ (ci : Int) := by omega
          clear hc hb hp h1 h2
          obtain ⟨g0, g1, g2, -⟩ := LD.out n
          obtain ⟨-, g0, -⟩ := g0
          obtain ⟨-, g1, -⟩ := g1
          obtain ⟨-, g2, -⟩ := g2
          go_wp2_with fail
          clear g0 g1 g2 b1 b2 b3 b4 b5
          obtain ⟨W0, hW0⟩ : ∃ W0, (n.w).alloc (.cells #[.int .i64 p.id, .int .i64 p.ch, .int .i64 p.year, .int .i64 p.lo, .int .i64 p.hi] 94) = W0 := ⟨_, rfl⟩
          have S0 : St d0.w W0 [(n.w.heap.size, 0, .int .i64 p.id), (n.w.heap.size, 1, .int .i64 p.ch), (n.w.heap.size, 2, .int .i64 p.year), (n.w.heap.size, 3, .int .i64 p.lo), (n.w.heap.size, 4, .int .i64 p.hi), (w.heap.size, 0, .slice q1 cs.length c1), (w.heap.size, 1, .slice (some ⟨b, o, none⟩) ps.length c2), (w.heap.size, 2, .slice q3 rs.length c3)] := by rw [← hW0]; exact ((⟨BD.out n, LD.out n⟩ : St d0.w n.w _)).box #[.int .i64 p.id, .int .i64 p.ch, .int .i64 p.year, .int .i64 p.lo, .int .i64 p.hi] 94 (n.w.heap.size) (by simp)
          rw [hW0]
          clear hW0
          obtain ⟨kG, hkk⟩ : ∃ k, n.w.heap.size = k := ⟨_, rfl⟩
          have gkG : d0.w.heap.size ≤ kG := by rw [← hkk]; exact (BD.out n).size
          rw [hkk] at S0 ⊢
          clear hkk
          obtain ⟨G, hC0, HG, LG, BG, hne⟩ := cls S0
          haveI := hne
          obtain ⟨g0, rfl⟩ : ∃ n : Wd G, W0 = n.w := ⟨⟨_, hC0⟩, rfl⟩
          have fG0 : ∀ n : Wd G, n.w.cell? ⟨kG, 0, none⟩ = some (.int .i64 p.id) := fun n => (LG.out n).1.2.1
          have fG1 : ∀ n : Wd G, n.w.cell? ⟨kG, 1, none⟩ = some (.int .i64 p.ch) := fun n => (LG.out n).2.1.2.1
          have fG2 : ∀ n : Wd G, n.w.cell? ⟨kG, 2, none⟩ = some (.int .i64 p.year) := fun n => (LG.out n).2.2.1.2.1
          have fG3 : ∀ n : Wd G, n.w.cell? ⟨kG, 3, none⟩ = some (.int .i64 p.lo) := fun n => (LG.out n).2.2.2.1.2.1
          have fG4 : ∀ n : Wd G, n.w.cell? ⟨kG, 4, none⟩ = some (.int .i64 p.hi) := fun n => (LG.out n).2.2.2.2.1.2.1
          have fG5 : ∀ n : Wd G, n.w.cell? ⟨w.heap.size, 0, none⟩ = some (.slice q1 cs.length c1) := fun n => (LG.out n).2.2.2.2.2.1.2.1
          have fG6 : ∀ n : Wd G, n.w.cell? ⟨w.heap.size, 1, none⟩ = some (.slice (some ⟨b, o, none⟩) ps.length c2) := fun n => (LG.out n).2.2.2.2.2.2.1.2.1
          have fG7 : ∀ n : Wd G, n.w.cell? ⟨w.heap.size, 2, none⟩ = some (.slice q3 rs.length c3) := fun n => (LG.out n).2.2.2.2.2.2.2.1.2.1
          clear S0 hC0
          have HGW : Hid (∀ m : Wd G, Below w.heap.size w m.w) := fun m => hW.out.trans ((BG.out m).mono hW.out.size)
          have HGD : Hid (∀ m : Wd G, ∃ n : Wd D, m.w = n.w) := fun m => ⟨⟨m.w, FD.out _ (BG.out m) (LG.out m).2.2.2.2.2⟩, rfl⟩
          have D1 := cinL HG HGW C3
          have D2 : ∀ n : Wd G, Hid (Calls Tryz.prog 78 #[.slice qi k ci, .int .i64 p.id] n.w fun e w'' => e = .returned (.bool x2) ∧ ∃ m : Wd G, w'' = m.w) := fun n => Calls.quiet_in (C := G) ((C4 _ (BG.out n)).mono fun _ _ h => ⟨h.1, h.2 ▸ n.h⟩)
          clear C3 C4
          cases x1
          · go_wp2_with (first | first | (go_at_call 77; with_reducible refine (D1 _).out.mono ?_; rintro e w' ⟨rfl, n, rfl⟩))
            go_ret
            exact ⟨ret_int (HE1.out 1 (by decide) (by rw [← HP2.out]; rfl)).symm, HGW.out _⟩
          · go_wp2_with (first | first | (go_at_call 77; with_reducible refine (D1 _).out.mono ?_; rintro e w' ⟨rfl, n, rfl⟩))
            refine wp_region_in G (HG.out _ _ (Wd.h _) (below_dr _)) (by kernel_rfl) (by kernel_rfl) ?_
            repeat (go_big_quiet_step (first | with_reducible exact (D2 _).out))
            refine wpQuiet_nil ?_
            intro wx hwx
            obtain ⟨n2, rfl⟩ : ∃ n : Wd G, wx = n.w := ⟨⟨wx, hwx⟩, rfl⟩
            clear hwx
            cases x2
            · go_wp2_with fail
              obtain ⟨n3, hn3⟩ := HGD.out n2
              have HN3 := Lib.hid hn3
              clear hn3
              go_roundw
              case rel => exact ⟨k + 1, n3, HN3.out, by simp, hlt, by unfold Hid; rw [← HP2.out]; rfl⟩
              case measure => simp [intOf]; omega
            · go_wp2_with fail
              go_ret
              exact ⟨ret_int (HE1.out 6 (by decide) (by rw [← HP2.out]; rfl)).symm, HGW.out _⟩
        · obtain rfl : k = ps.length := by omega
          have HP0 : Hid (chkPs cs [] ps = 0) := by unfold Hid; rw [← HP.out]; simp [chkPs]
          have HE3 := Lib.hid (HE2.out HP0.out)
          clear HP HE1 HE2 HP0 K4
          obtain ⟨g0, g1, g2, -⟩ := LD.out n
          obtain ⟨-, g0, -⟩ := g0
          obtain ⟨-, g1, -⟩ := g1
          obtain ⟨-, g2, -⟩ := g2
          go_wp2_with fail
          clear g0 g1 g2
          go_loopw [41] (fun i wr => ∃ (k : Nat) (n : Wd D), wr = n.w ∧ i = .int .i64 (k : Int) ∧ k ≤ rs.length ∧ Hid (chkRs cs (ps.map (·.id) ++ (rs.take k).map (·.id)) (rs.take k) (rs.drop k) = E)) (fun i wr => rs.length - (intOf i).toNat)
          case atStart => exact ⟨0, n, rfl, rfl, Nat.zero_le _, by unfold Hid; rw [HE3.out]; simp⟩
          case round =>
            obtain ⟨k, n, rfl, rfl, hk, HP⟩ := hrel
            by_cases hlt : k < rs.length
            · have HP2 : Hid (_ = E) := (chkRs_step cs (ps.map (·.id)) rs k hlt).symm.trans HP.out
              clear HP
              rcases (H.out.rs.keep (HW.out n)) with h0 | ⟨b, o, he, hb, hc⟩
              · exact absurd hlt (by simp [show rs = [] from h0])
              obtain rfl : q3 = some ⟨b, o, none⟩ := he
              obtain ⟨b1, b2, b3, b4, b5⟩ := hc k rs[k] (List.getElem?_eq_getElem hlt)
              have C3 := fun W hb => K5 W hb rs[k]
              obtain ⟨p, hp⟩ : ∃ p, rs[k] = p := ⟨_, rfl⟩
              simp only [hp] at b1 b2 b3 b4 b5 C3
              rw [hp] at HP2
              obtain ⟨x1, h1⟩ : ∃ b, okRp cs p = b := ⟨_, rfl⟩
              obtain ⟨x2, h2⟩ : ∃ b, (ps.map (·.id) ++ (rs.take k).map (·.id)).contains p.id = b := ⟨_, rfl⟩
              obtain ⟨x3, h3⟩ : ∃ b, repB (rs.take k) p = b := ⟨_, rfl⟩
              have C4 : ∀ W, Below d0.w.heap.size d0.w W → Calls Tryz.prog 78 #[.slice qi (ps.length + k) ci, .int .i64 p.id] W fun e w' => e = .returned (.bool x2) ∧ W = w' := fun W hW => by
                have := hasI_any qi ci (ps.map (·.id) ++ (rs.take k).map (·.id)) p.id (ps.length + k) (by simp; omega) W (by omega) (by
                  have := (HI.out.keep hW).take (ps.length + k)
                  rwa [show (ps.map (·.id) ++ rs.map (·.id)).take (ps.length + k) = ps.map (·.id) ++ (rs.take k).map (·.id) from by rw [List.take_append, List.length_map, List.take_of_length_le (by simp), Nat.add_sub_cancel_left, List.map_take]] at this)
                rwa [h2] at this
              have C5 : ∀ W, Below w.heap.size w W → Calls Tryz.prog 80 #[.slice (some ⟨b, o, none⟩) k c3, p.v] W fun e w' => e = .returned (.bool x3) ∧ Below W.heap.size W w' := fun W hb => by
                have := repaired_any (some ⟨b, o, none⟩) c3 (rs.take k) p k (by simp; omega) W (by omega) ((H.out.rs.keep hb).take k)
                rwa [h3] at this
              rw [h1, h2, h3] at HP2
              simp only [h1] at C3
              have hlt' : (k : Int) < (rs.length : Int) := by omega
              have hkc : (ps.length : Int) + (k : Int) ≤ (ci : Int) := by omega
              have hk3 : (k : Int) ≤ (c3 : Int) := by have : rs.length ≤ c3 := k3; omega
              clear hc hb hp h1 h2 h3
              obtain ⟨g0, g1, g2, -⟩ := LD.out n
              obtain ⟨-, g0, -⟩ := g0
              obtain ⟨-, g1, -⟩ := g1
              obtain ⟨-, g2, -⟩ := g2
              go_wp2_with fail
              clear g0 g1 g2 b1 b2 b3 b4 b5
              obtain ⟨W0, hW0⟩ : ∃ W0, (n.w).alloc (.cells #[.int .i64 p.id, .int .i64 p.ch, .int .i64 p.year, .int .i64 p.lo, .int .i64 p.hi] 104) = W0 := ⟨_, rfl⟩
              have S0 : St d0.w W0 [(n.w.heap.size, 0, .int .i64 p.id), (n.w.heap.size, 1, .int .i64 p.ch), (n.w.heap.size, 2, .int .i64 p.year), (n.w.heap.size, 3, .int .i64 p.lo), (n.w.heap.size, 4, .int .i64 p.hi), (w.heap.size, 0, .slice q1 cs.length c1), (w.heap.size, 1, .slice q2 ps.length c2), (w.heap.size, 2, .slice (some ⟨b, o, none⟩) rs.length c3)] := by rw [← hW0]; exact ((⟨BD.out n, LD.out n⟩ : St d0.w n.w _)).box #[.int .i64 p.id, .int .i64 p.ch, .int .i64 p.year, .int .i64 p.lo, .int .i64 p.hi] 104 (n.w.heap.size) (by simp)
              rw [hW0]
              clear hW0
              obtain ⟨kG, hkk⟩ : ∃ k, n.w.heap.size = k := ⟨_, rfl⟩
              have gkG : d0.w.heap.size ≤ kG := by rw [← hkk]; exact (BD.out n).size
              rw [hkk] at S0 ⊢
              clear hkk
              obtain ⟨G, hC0, HG, LG, BG, hne⟩ := cls S0
              haveI := hne
              obtain ⟨g0, rfl⟩ : ∃ n : Wd G, W0 = n.w := ⟨⟨_, hC0⟩, rfl⟩
              have fG0 : ∀ n : Wd G, n.w.cell? ⟨kG, 0, none⟩ = some (.int .i64 p.id) := fun n => (LG.out n).1.2.1
              have fG1 : ∀ n : Wd G, n.w.cell? ⟨kG, 1, none⟩ = some (.int .i64 p.ch) := fun n => (LG.out n).2.1.2.1
              have fG2 : ∀ n : Wd G, n.w.cell? ⟨kG, 2, none⟩ = some (.int .i64 p.year) := fun n => (LG.out n).2.2.1.2.1
              have fG3 : ∀ n : Wd G, n.w.cell? ⟨kG, 3, none⟩ = some (.int .i64 p.lo) := fun n => (LG.out n).2.2.2.1.2.1
              have fG4 : ∀ n : Wd G, n.w.cell? ⟨kG, 4, none⟩ = some (.int .i64 p.hi) := fun n => (LG.out n).2.2.2.2.1.2.1
              have fG5 : ∀ n : Wd G, n.w.cell? ⟨w.heap.size, 0, none⟩ = some (.slice q1 cs.length c1) := fun n => (LG.out n).2.2.2.2.2.1.2.1
              have fG6 : ∀ n : Wd G, n.w.cell? ⟨w.heap.size, 1, none⟩ = some (.slice q2 ps.length c2) := fun n => (LG.out n).2.2.2.2.2.2.1.2.1
              have fG7 : ∀ n : Wd G, n.w.cell? ⟨w.heap.size, 2, none⟩ = some (.slice (some ⟨b, o, none⟩) rs.length c3) := fun n => (LG.out n).2.2.2.2.2.2.2.1.2.1
              clear S0 hC0
              have HGW : Hid (∀ m : Wd G, Below w.heap.size w m.w) := fun m => hW.out.trans ((BG.out m).mono hW.out.size)
              have HGD : Hid (∀ m : Wd G, ∃ n : Wd D, m.w = n.w) := fun m => ⟨⟨m.w, FD.out _ (BG.out m) (LG.out m).2.2.2.2.2⟩, rfl⟩
              have D1 := cinL HG HGW C3
              have D2 : ∀ n : Wd G, Hid (Calls Tryz.prog 78 #[.slice qi (ps.length + k) ci, .int .i64 p.id] n.w fun e w'' => e = .returned (.bool x2) ∧ ∃ m : Wd G, w'' = m.w) := fun n => Calls.quiet_in (C := G) ((C4 _ (BG.out n)).mono fun _ _ h => ⟨h.1, h.2 ▸ n.h⟩)
              have D3 := cinL HG HGW C5
              clear C3 C4 C5
              cases x1
              · go_wp2_with (first | first | (go_at_call 79; with_reducible refine (D1 _).out.mono ?_; rintro e w' ⟨rfl, n, rfl⟩))
                go_ret
                exact ⟨ret_int (by rw [← HP2.out]; rfl), HGW.out _⟩
              · go_wp2_with (first | first | (go_at_call 79; with_reducible refine (D1 _).out.mono ?_; rintro e w' ⟨rfl, n, rfl⟩))
                cases x2
                · skip
                  refine wp_region_in G (HG.out _ _ (Wd.h _) (below_dr _)) (by kernel_rfl) (by kernel_rfl) ?_
                  repeat (go_big_quiet_step (first | with_reducible exact (D2 _).out | with_reducible exact (D3 _).out))
                  refine wpQuiet_nil ?_
                  intro wx hwx
                  obtain ⟨n2, rfl⟩ : ∃ n : Wd G, wx = n.w := ⟨⟨wx, hwx⟩, rfl⟩
                  clear hwx
                  cases x3
                  · go_wp2_with fail
                    obtain ⟨n3, hn3⟩ := HGD.out n2
                    have HN3 := Lib.hid hn3
                    clear hn3
                    go_roundw
                    case rel => exact ⟨k + 1, n3, HN3.out, by simp, hlt, by unfold Hid; rw [← HP2.out]; rfl⟩
                    case measure => simp [intOf]; omega
                  · go_wp2_with fail
                    go_ret
                    exact ⟨ret_int (by rw [← HP2.out]; rfl), HGW.out _⟩
                · skip
                  refine wp_region_in G (HG.out _ _ (Wd.h _) (below_dr _)) (by kernel_rfl) (by kernel_rfl) ?_
                  repeat (go_big_quiet_step (first | with_reducible exact (D2 _).out | with_reducible exact (D3 _).out))
                  refine wpQuiet_nil ?_
                  intro wx hwx
                  obtain ⟨n2, rfl⟩ : ∃ n : Wd G, wx = n.w := ⟨⟨wx, hwx⟩, rfl⟩
                  clear hwx
                  go_wp2_with fail
                  go_ret
                  exact ⟨ret_int (by rw [← HP2.out]; rfl), HGW.out _⟩
            · obtain rfl : k = rs.length := by omega
              obtain ⟨g0, g1, g2, -⟩ := LD.out n
              obtain ⟨-, g0, -⟩ := g0
              obtain ⟨-, g1, -⟩ := g1
              obtain ⟨-, g2, -⟩ := g2
              go_wp2_with fail
              go_ret
              exact ⟨ret_int (by rw [← HP.out]; simp [chkRs]), HW.out _⟩
    · have hb : (e1 != 0) = true := by simpa using he
      have HN := Lib.hid he
      clear he
      go_wp2_with (first | first | (go_at_call 74; with_reducible refine (D1 _).out.mono ?_; rintro e w' ⟨rfl, n, rfl⟩) | (go_at_call 75; with_reducible refine (D2 _).out.mono ?_; rintro e w' ⟨rfl, n, rfl⟩))
      go_ret
      exact ⟨ret_int (by rw [← HE.out, chk, if_neg (by rw [H0.out]; simp), H1.out, if_pos HN.out]), BC.out _⟩
  · go_wp2_with (first | first | (go_at_call 74; with_reducible refine (D1 _).out.mono ?_; rintro e w' ⟨rfl, n, rfl⟩))
    go_ret
    exact ⟨ret_int (by rw [← HE.out, chk, if_pos H0.out]), BC.out _⟩
end Go.Proofs.YtcejmfgbfdhflaaGreat
