import Derived.Test.YtcejmfgbfdhflaaGreatCe
import Derived.Test.YtcejmfgbfdhflaaGreatFl
import Derived.WalkKit
import Derived.LoopTactic
import Derived.WalkSpells
import Derived.WalkLawsBesides
import Derived.Lib.Hide
import Derived.BigQuiet
import Derived.IntWalk
import Derived.Deep.DeepMust
import Derived.WalkSmall
import Derived.StillTailTactics
import Derived.Deep.RegionLaw
import Derived.Deep.RegionHeld3
import Derived.Deep.QuietTactic
namespace Go.Proofs.YtcejmfgbfdhflaaGreat
open Go.RowKit Go.BigFrame Go.Sort
attribute [local go_sem] World.cell?_alloc_some
theorem kStart {V : World} {b : Nat} {v : Value} (hb : b < V.heap.size) (h : V.cell? ⟨b, 0, none⟩ = some v) : V.drew.cell? ⟨b, 0, none⟩ = some v ∧ Below V.heap.size V V.drew :=
  ⟨((below_dr V).cell (p := ⟨b, 0, none⟩) hb).trans h, below_dr V⟩
theorem kCall {V : World} {b : Nat} {v : Value} (hb : b < V.heap.size) {W W' : World} (hg : Below W.heap.size W W') (h : W.cell? ⟨b, 0, none⟩ = some v ∧ Below V.heap.size V W) : W'.cell? ⟨b, 0, none⟩ = some v ∧ Below V.heap.size V W' :=
  ⟨(hg.cell (p := ⟨b, 0, none⟩) (Nat.lt_of_lt_of_le hb h.2.size)).trans h.1, h.2.trans (hg.mono h.2.size)⟩
theorem kSet {V : World} {b : Nat} {v : Value} (hb : b < V.heap.size) {W : World} {k : Nat} {v0 v1 v2 v3 v4 : Value} (hk : V.heap.size ≤ k) (h : W.cell? ⟨b, 0, none⟩ = some v ∧ Below V.heap.size V W) :
    (((((W.setCell ⟨k, 0, none⟩ v0).setCell ⟨k, 1, none⟩ v1).setCell ⟨k, 2, none⟩ v2).setCell ⟨k, 3, none⟩ v3).setCell ⟨k, 4, none⟩ v4).cell? ⟨b, 0, none⟩ = some v ∧ Below V.heap.size V (((((W.setCell ⟨k, 0, none⟩ v0).setCell ⟨k, 1, none⟩ v1).setCell ⟨k, 2, none⟩ v2).setCell ⟨k, 3, none⟩ v3).setCell ⟨k, 4, none⟩ v4) :=
  ⟨((set5 (Below.refl V.heap.size W) hk v0 v1 v2 v3 v4).cell (p := ⟨b, 0, none⟩) hb).trans h.1, set5 h.2 hk _ _ _ _ _⟩
theorem kAl2 {V : World} {b : Nat} {v : Value} (hb : b < V.heap.size) {W : World} {o o' : Obj} (hk : V.heap.size ≤ W.heap.size) (h : (W.alloc o).cell? ⟨b, 0, none⟩ = some v ∧ Below V.heap.size V (W.alloc o)) :
    (W.alloc o').cell? ⟨b, 0, none⟩ = some v ∧ Below V.heap.size V (W.alloc o') := by
  obtain ⟨h1, h0⟩ := h
  have hA := below_al W o
  have hB := below_al W o'
  have e0 : b < W.heap.size := Nat.lt_of_lt_of_le hb hk
  exact ⟨((hB.cell (p := ⟨b, 0, none⟩) e0).trans (hA.cell (p := ⟨b, 0, none⟩) e0).symm).trans h1,
    ⟨h0.os.trans (by simp), h0.tape.trans (by simp), h0.output.trans (by simp), by have := h0.size; simp at this ⊢; omega, fun i hi => by have e1 := hA.block i (by omega); have e2 := hB.block i (by omega); rw [e2, ← e1]; exact h0.block i hi⟩⟩
theorem kFin {w V : World} {b : Nat} {v : Value} (h0 : Below w.heap.size w V) {W : World} (h : W.cell? ⟨b, 0, none⟩ = some v ∧ Below V.heap.size V W) : Below w.heap.size w W := h0.trans (h.2.mono h0.size)
theorem kSize {V : World} {b : Nat} {v : Value} {W W' : World} (h : W.cell? ⟨b, 0, none⟩ = some v ∧ Below V.heap.size V W) (hg : Below W.heap.size W W') : V.heap.size ≤ W'.heap.size := Nat.le_trans h.2.size hg.size
theorem new5 {W W' : World} {a b c d f : Value} {e : TypeId} (hb : Below (W.alloc (.cells #[a, b, c, d, f] e)).heap.size (W.alloc (.cells #[a, b, c, d, f] e)) W') :
    (W'.cell? ⟨W.heap.size, 0, none⟩ = some a ∧ W'.frozen? ⟨W.heap.size, 0, none⟩ = false) ∧ (W'.cell? ⟨W.heap.size, 1, none⟩ = some b ∧ W'.frozen? ⟨W.heap.size, 1, none⟩ = false) ∧
    (W'.cell? ⟨W.heap.size, 2, none⟩ = some c ∧ W'.frozen? ⟨W.heap.size, 2, none⟩ = false) ∧ (W'.cell? ⟨W.heap.size, 3, none⟩ = some d ∧ W'.frozen? ⟨W.heap.size, 3, none⟩ = false) ∧
    (W'.cell? ⟨W.heap.size, 4, none⟩ = some f ∧ W'.frozen? ⟨W.heap.size, 4, none⟩ = false) := by
  obtain ⟨⟨h0, r1, z1⟩, ⟨_, r2, z2⟩, ⟨_, r3, z3⟩, ⟨_, r4, z4⟩, ⟨_, r5, z5⟩, _⟩ := (cs_blk W #[a, b, c, d, f] e _ 0 rfl).keep hb
  exact ⟨⟨r1, z1⟩, ⟨r2, z2⟩, ⟨r3, z3⟩, ⟨r4, z4⟩, ⟨r5, z5⟩⟩
theorem new5d {W W' : World} {a b c d f : Value} {e : TypeId} (hb : Below (W.alloc (.cells #[a, b, c, d, f] e)).drew.heap.size (W.alloc (.cells #[a, b, c, d, f] e)).drew W') :
    (W'.cell? ⟨W.heap.size, 0, none⟩ = some a ∧ W'.frozen? ⟨W.heap.size, 0, none⟩ = false) ∧ (W'.cell? ⟨W.heap.size, 1, none⟩ = some b ∧ W'.frozen? ⟨W.heap.size, 1, none⟩ = false) ∧
    (W'.cell? ⟨W.heap.size, 2, none⟩ = some c ∧ W'.frozen? ⟨W.heap.size, 2, none⟩ = false) ∧ (W'.cell? ⟨W.heap.size, 3, none⟩ = some d ∧ W'.frozen? ⟨W.heap.size, 3, none⟩ = false) ∧
    (W'.cell? ⟨W.heap.size, 4, none⟩ = some f ∧ W'.frozen? ⟨W.heap.size, 4, none⟩ = false) := new5 ((below_dr _).trans hb)
abbrev Z90 : Obj := .cells #[.int .i64 0, .int .i64 0, .int .i64 0, .int .i64 0, .int .i64 0] 90
theorem alloc90 (P : Act) (w : World) (o : Oper) (h : o.op = .alloc 90) : (execOp P.eval o).run Tryz.prog w = .ok (.value (.pointer (some ⟨w.heap.size, 0, none⟩))) (w.alloc Z90) := by
  unfold execOp
  rw [h]
  go_simp
/-- The first error of chains. -/
def chkCs (pre : List Ch) : List Ch → Int
  | [] => 0
  | c :: r => if okCh c = false then 1 else if (chF pre c.id).isSome = true then 6 else chkCs (pre ++ [c]) r
theorem chkCs_step (l : List Ch) (k : Nat) (h : k < l.length) : chkCs (l.take k) (l.drop k) = if okCh l[k] = false then 1 else if (chF (l.take k) l[k].id).isSome = true then 6 else chkCs (l.take (k + 1)) (l.drop (k + 1)) := by
  rw [List.drop_eq_getElem_cons h, take_snocG l k h]
  rfl
set_option maxRecDepth 100000 in
set_option maxHeartbeats 3200000 in
theorem checkChains_any (q : Option Addr) (cap : Nat) (l : List Ch) (w : World) (hl : l.length ≤ 1000) (hcap : l.length ≤ cap) (hcm : cap ≤ maxLen) (h : ChsAt w q l) :
    Calls Tryz.prog 75 #[.slice q l.length cap] w fun e w' => e = .returned (.int .i64 (chkCs [] l)) ∧ Below w.heap.size w w' := by
  have H := Lib.hid h
  obtain ⟨E, hE⟩ : ∃ E, chkCs [] l = E := ⟨_, rfl⟩
  have HE := Lib.hid hE
  rw [hE]
  clear h hE
  unfold maxLen at hcm
  go_enter Tryz.func75, Tryz.ntmps75
  go_wp2_with fail
  go_loopw [9] (fun i wr => ∃ (k : Nat), Below w.heap.size w wr ∧ i = .int .i64 (k : Int) ∧ k ≤ l.length ∧ Hid (chkCs (l.take k) (l.drop k) = E)) (fun i wr => l.length - (intOf i).toNat)
  case atStart => exact ⟨0, Below.refl _ _, rfl, Nat.zero_le _, HE⟩
  case round =>
    obtain ⟨k, hG, rfl, hk, HI⟩ := hrel
    have HG := Lib.hid hG
    by_cases hlt : k < l.length
    · have HI2 : Hid (_ = E) := (chkCs_step l k hlt).symm.trans HI.out
      clear HI
      rcases H.out with h0 | ⟨b, o, rfl, hb, hc⟩
      · exact absurd hlt (by simp [h0])
      · obtain ⟨c1, c2, c3, c4, c5⟩ := hc k l[k] (List.getElem?_eq_getElem hlt)
        have b1 := (hG.cell (p := ⟨b, o + k * 5, none⟩) hb).trans c1
        have b2 := (hG.cell (p := ⟨b, o + k * 5 + 1, none⟩) hb).trans c2
        have b3 := (hG.cell (p := ⟨b, o + k * 5 + 2, none⟩) hb).trans c3
        have b4 := (hG.cell (p := ⟨b, o + k * 5 + 3, none⟩) hb).trans c4
        have b5 := (hG.cell (p := ⟨b, o + k * 5 + 4, none⟩) hb).trans c5
        obtain ⟨c, hcc⟩ : ∃ c, l[k] = c := ⟨_, rfl⟩
        rw [hcc] at b1 b2 b3 b4 b5 HI2
        have hlt' : (k : Int) < (l.length : Int) := by omega
        have hkc : (k : Int) ≤ (cap : Int) := by omega
        have C1 := fun W => validChain_any c W
        have C2 := fun W (hb : Below w.heap.size w W) => chainOf_any (some ⟨b, o, none⟩) cap (l.take k) c.id W (by simp; omega) ((H.out.take k).keep hb)
        simp only [List.length_take, Nat.min_eq_left (Nat.le_of_lt hlt)] at C2
        obtain ⟨x0, h0⟩ : ∃ b, okCh c = b := ⟨_, rfl⟩
        obtain ⟨x1, h1⟩ : ∃ b, (chF (l.take k) c.id).isSome = b := ⟨_, rfl⟩
        obtain ⟨d, hd⟩ : ∃ d, chOr (l.take k) c.id = d := ⟨_, rfl⟩
        rw [h0, h1] at HI2
        simp only [h0] at C1
        simp only [h1, hd] at C2
        clear c1 c2 c3 c4 c5 hc hb hG hcc h0 h1 hd
        go_wp2_with fail
        obtain ⟨W0, hW0⟩ : ∃ W0, (wr).alloc (.cells #[.int .i64 c.id, .int .i64 c.year, .int .i64 c.lo, .int .i64 c.hi, .int .i64 c.wear] 90) = W0 := ⟨_, rfl⟩
        have S0 : St wr W0 [(wr.heap.size, 0, .int .i64 c.id), (wr.heap.size, 1, .int .i64 c.year), (wr.heap.size, 2, .int .i64 c.lo), (wr.heap.size, 3, .int .i64 c.hi), (wr.heap.size, 4, .int .i64 c.wear)] := by rw [← hW0]; exact ((St.nil wr)).box #[.int .i64 c.id, .int .i64 c.year, .int .i64 c.lo, .int .i64 c.hi, .int .i64 c.wear] 90 (wr.heap.size) (by simp)
        rw [hW0]
        clear hW0
        obtain ⟨D, hC0, HD, LD, BD, hne⟩ := cls S0
        haveI := hne
        obtain ⟨d0, rfl⟩ : ∃ n : Wd D, W0 = n.w := ⟨⟨_, hC0⟩, rfl⟩
        have fD0 : ∀ n : Wd D, n.w.cell? ⟨wr.heap.size, 0, none⟩ = some (.int .i64 c.id) := fun n => (LD.out n).1.2.1
        have fD1 : ∀ n : Wd D, n.w.cell? ⟨wr.heap.size, 1, none⟩ = some (.int .i64 c.year) := fun n => (LD.out n).2.1.2.1
        have fD2 : ∀ n : Wd D, n.w.cell? ⟨wr.heap.size, 2, none⟩ = some (.int .i64 c.lo) := fun n => (LD.out n).2.2.1.2.1
        have fD3 : ∀ n : Wd D, n.w.cell? ⟨wr.heap.size, 3, none⟩ = some (.int .i64 c.hi) := fun n => (LD.out n).2.2.2.1.2.1
        have fD4 : ∀ n : Wd D, n.w.cell? ⟨wr.heap.size, 4, none⟩ = some (.int .i64 c.wear) := fun n => (LD.out n).2.2.2.2.1.2.1
        clear S0 hC0
        have D1 := cin HD fun W => Calls.be (C1 W)
        clear C1
        cases x0
        · go_wp2_with (first | first | (go_at_call 138; with_reducible refine (D1 _).out.mono ?_; rintro e w' ⟨rfl, n, rfl⟩))
          go_ret
          exact ⟨ret_int (by rw [← HI2.out]; rfl), HG.out.trans ((BD.out _).mono HG.out.size)⟩
        · go_wp2_with (first | first | (go_at_call 138; with_reducible refine (D1 _).out.mono ?_; rintro e w' ⟨rfl, n, rfl⟩))
          have hV : wr.heap.size < n.w.heap.size := (LD.out n).1.1
          have S0 := Lib.hid (kStart hV (fD0 n))
          have KC := fun W W' => Lib.hid (@kCall n.w wr.heap.size (.int .i64 c.id) hV W W')
          have KS := fun W k v0 v1 v2 v3 v4 => Lib.hid (@kSet n.w wr.heap.size (.int .i64 c.id) hV W k v0 v1 v2 v3 v4)
          have KA := fun W o o' => Lib.hid (@kAl2 n.w wr.heap.size (.int .i64 c.id) hV W o o')
          have KB := Lib.hid (HG.out.trans ((BD.out n).mono HG.out.size))
          have E2 := fun W (h : W.cell? ⟨wr.heap.size, 0, none⟩ = some (.int .i64 c.id) ∧ Below n.w.heap.size n.w W) => Lib.hid (C2 W (KB.out.trans (h.2.mono KB.out.size)))
          clear D1 C2 b1 b2 b3 b4 b5
          go_region_held3 (fun W => W.cell? ⟨wr.heap.size, 0, none⟩ = some (.int .i64 c.id) ∧ Below n.w.heap.size n.w W)
            (first | (with_reducible exact S0.out) | (with_reducible exact (KC _ _).out (by assumption) (by assumption)) | (with_reducible exact (KC _ _).out (below_al _ _) (by assumption)) | (with_reducible exact (KA _ _ _).out (by assumption) (by assumption)) | (with_reducible exact (KS _ _ _ _ _ _ _).out (by first | assumption | omega | (simp; omega) | simp) (by assumption)))
            (first | (go_at_call 112; with_reducible refine (E2 _ (by assumption)).out.mono ?_; rintro e w' ⟨rfl, hb⟩; have hn := kSize (by with_reducible assumption) hb; (first | (with_reducible have hz := new5 hb) | (with_reducible have hz := new5d hb) | skip)))
          all_goals
            have KF := fun W => Lib.hid (@kFin w n.w wr.heap.size (.int .i64 c.id) KB.out W)
            clear S0 KC KA KS E2
            cases x1
            · go_wp2_with fail
              go_roundw
              case rel => exact ⟨k + 1, (KF _).out (by assumption), by simp, hlt, by unfold Hid; rw [← HI2.out]; rfl⟩
              case measure => simp [intOf]; omega
            · go_wp2_with fail
              go_ret
              exact ⟨ret_int (by rw [← HI2.out]; rfl), (KF _).out (by assumption)⟩
    · obtain rfl : k = l.length := by omega
      clear hG
      go_wp2_with fail
      go_ret
      exact ⟨ret_int (by rw [← HI.out]; simp [chkCs]), HG.out⟩
end Go.Proofs.YtcejmfgbfdhflaaGreat
