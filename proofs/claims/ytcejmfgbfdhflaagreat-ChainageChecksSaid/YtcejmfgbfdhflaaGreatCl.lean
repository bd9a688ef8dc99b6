import Derived.Test.YtcejmfgbfdhflaaGreatCk
import Derived.WalkKit
import Derived.LoopTactic
import Derived.WalkSpells
import Derived.WalkLawsBesides
import Derived.Lib.Hide
import Derived.BigQuiet
import Derived.IntWalk
import Derived.Deep.DeepMust
import Derived.WalkSmall
import Derived.StillTailTactics
import Derived.Deep.RegionLaw
import Derived.Deep.RegionHeld3
import Derived.Deep.QuietTactic
namespace Go.Proofs.YtcejmfgbfdhflaaGreat
open Go.RowKit Go.Shelf Go.BigFrame Go.Sort
attribute [local go_sem] World.cell?_alloc_some
/-- A spell with its things. -/
structure Rw where
  x : SV
  l : List (Value × Th)
/-- The spells of a chain, while they are made. -/
structure SMm (W0 W : World) (n : Nat) (rs : List Rw) : Prop where
  b : Below W0.heap.size W0 W
  lt : W0.heap.size < W.heap.size
  fr : ∀ o, W.frozen? ⟨W0.heap.size, o, none⟩ = false
  old : ∀ o, o < n * 4 → ∃ v, W.cell? ⟨W0.heap.size, o, none⟩ = some v
  g3 : ∃ q a c, W.cell? ⟨W0.heap.size, 3, none⟩ = some (.slice q a c)
  sp : ∀ (i : Nat) (r : Rw), rs[i]? = some r → SpC W W0.heap.size (i * 4) r.x
  ot : ∀ (i : Nat) (r : Rw), rs[i]? = some r → OT W (W0.heap.size + 1) (.slice r.x.q r.l.length r.x.cap) r.l
  th : ∀ (i : Nat) (r : Rw), rs[i]? = some r → r.x.s.ths = r.l.map (·.2) ∧ 0 < r.l.length
  ne : ∀ (i j : Nat) (r r' : Rw), rs[i]? = some r → rs[j]? = some r' → i ≠ j → r.x.q ≠ r'.x.q
theorem SpC.keep {W W' : World} {b o : Nat} {x : SV} (h : SpC W b o x) (hb : Below W.heap.size W W') : SpC W' b o x := by
  obtain ⟨k1, k2, k3, k4⟩ := h
  have f : ∀ (a : Addr) (u : Value), W.cell? a = some u → W'.cell? a = some u := fun a u h => (hb.cell (World.block_lt_of_cell? W _ h)).trans h
  exact ⟨f _ _ k1, f _ _ k2, f _ _ k3, f _ _ k4⟩
theorem SMm.keep {W0 W W' : World} {n : Nat} {rs : List Rw} (h : SMm W0 W n rs) (hb : Below W.heap.size W W') : SMm W0 W' n rs := by
  have f : ∀ (a : Addr) (u : Value), W.cell? a = some u → W'.cell? a = some u := fun a u h => (hb.cell (World.block_lt_of_cell? W _ h)).trans h
  obtain ⟨q, a, c, hg⟩ := h.g3
  exact ⟨h.b.trans (hb.mono (Nat.le_of_lt (Nat.lt_of_le_of_lt (Nat.le_refl _) h.lt))), Nat.lt_of_lt_of_le h.lt hb.size, fun o => (hb.frozen (p := ⟨W0.heap.size, o, none⟩) h.lt).trans (h.fr o), fun o ho => by
    obtain ⟨v, hv⟩ := h.old o ho
    exact ⟨v, f _ _ hv⟩, ⟨q, a, c, f _ _ hg⟩, fun i r hr => (h.sp i r hr).keep hb, fun i r hr => (h.ot i r hr).keep hb, h.th, h.ne⟩
/-- Things stay when the spells' block is written. -/
theorem ThAt.grownX {W W' : World} {v : Value} {t : Th} (h : ThAt W v t) {G : Nat} (hg : W.grownBy W' (some G)) (hi : ∃ q a c, W.cell? ⟨G, 3, none⟩ = some (.slice q a c)) : ThAt W' v t := by
  rcases h with h | ⟨b, ch, ty, h1, h2, h3⟩
  · exact .inl h
  · have hne : G ≠ b := fun e => by
      subst e
      obtain ⟨q, a, c, hc⟩ := hi
      have := h3.2.2.2.1.2.1
      rw [hc] at this
      cases this
    exact .inr ⟨b, ch, ty, h1, h2, h3.grown hg (fun x hx e => by
      have : x.1 = b := by simp at hx; rcases hx with rfl | rfl | rfl | rfl | rfl <;> rfl
      injection e with e
      exact hne (e.symm.trans this))⟩
theorem OT.grownX {W W' : World} {B G : Nat} {v : Value} {l : List (Value × Th)} (h : OT W B v l) (hB : G < B) (hg : W.grownBy W' (some G)) (hi : ∃ q a c, W.cell? ⟨G, 3, none⟩ = some (.slice q a c)) : OT W' B v l := by
  refine ⟨?_, fun p hp => (h.at' p hp).grownX hg hi⟩
  obtain ⟨h1, h2 | ⟨g, cap, cur, rfl, hg2, hc, h3, h4, h5, h6⟩⟩ := h.own
  · exact ⟨h1, .inl h2⟩
  · exact ⟨h1, .inr ⟨g, cap, cur, rfl, hg2, by rw [hg.block g (Array.getElem?_eq_some_iff.1 hc).1 (fun e => by injection e with e; omega)]; exact hc, h3, h4, h5, h6⟩⟩
theorem set_some {W : World} {a c : Addr} {u v : Value} (h : W.cell? c = some v) : ∃ v', (W.setCell a u).cell? c = some v' := by
  by_cases e : a = c
  · subst e; exact ⟨_, World.cell?_setCell_same _ _ _ h⟩
  · exact ⟨v, by rw [World.cell?_setCell_other _ _ _ _ e]; exact h⟩
theorem set_grown (W : World) (b o : Nat) (u : Value) : W.grownBy (W.setCell ⟨b, o, none⟩ u) (some b) := by
  rw [Go.Sort.setCell_eq]
  exact grown_map _ _ _
theorem grown_trans {A B C : World} {b : Nat} (h : A.grownBy B (some b)) (k : B.grownBy C (some b)) : A.grownBy C (some b) :=
  ⟨k.os.trans h.os, k.tape.trans h.tape, k.output.trans h.output, Nat.le_trans h.size k.size, fun i hi hne => (k.block i (Nat.lt_of_lt_of_le hi h.size) hne).trans (h.block i hi hne)⟩
theorem addr_ne {b o1 o2 : Nat} (h : o1 ≠ o2) : (⟨b, o1, none⟩ : Addr) ≠ ⟨b, o2, none⟩ := fun e => h (congrArg Addr.off e)
theorem OT.blk {W : World} {B : Nat} {q : Option Addr} {c : Nat} {l : List (Value × Th)} (h : OT W B (.slice q l.length c) l) (h0 : 0 < l.length) : ∃ g, q = some ⟨g, 0, none⟩ ∧ B ≤ g ∧ g < W.heap.size := by
  obtain ⟨g, cap, e, h1, h2, _⟩ := h.sh h0
  injection e with e1 e2 e3
  exact ⟨g, e1, h1, h2⟩
/-- The spells that are made, and one more. -/
theorem SMm.push {W0 W : World} {n : Nat} {rs : List Rw} (h : SMm W0 W n rs) (hk : rs.length < n) (r : Rw) (hot : OT W (W0.heap.size + 1) (.slice r.x.q r.l.length r.x.cap) r.l) (hth : r.x.s.ths = r.l.map (·.2) ∧ 0 < r.l.length)
    (hne : ∀ (i : Nat) (r' : Rw), rs[i]? = some r' → r'.x.q ≠ r.x.q) :
    SMm W0 ((((W.setCell ⟨W0.heap.size, rs.length * 4, none⟩ (.int .i64 r.x.s.lo)).setCell ⟨W0.heap.size, rs.length * 4 + 1, none⟩ (.int .i64 r.x.s.hi)).setCell ⟨W0.heap.size, rs.length * 4 + 2, none⟩ (.int .i64 r.x.s.wear)).setCell ⟨W0.heap.size, rs.length * 4 + 3, none⟩ (.slice r.x.q r.x.s.ths.length r.x.cap)) n (rs ++ [r]) := by
  obtain ⟨k, hkk⟩ : ∃ k, rs.length = k := ⟨_, rfl⟩
  rw [hkk] at hk ⊢
  obtain ⟨v0, o0⟩ := h.old (k * 4) (by omega)
  obtain ⟨v1, o1⟩ := h.old (k * 4 + 1) (by omega)
  obtain ⟨v2, o2⟩ := h.old (k * 4 + 2) (by omega)
  obtain ⟨v3, o3⟩ := h.old (k * 4 + 3) (by omega)
  generalize hG : W0.heap.size = G at *
  have hg : W.grownBy ((((W.setCell ⟨G, k * 4, none⟩ (.int .i64 r.x.s.lo)).setCell ⟨G, k * 4 + 1, none⟩ (.int .i64 r.x.s.hi)).setCell ⟨G, k * 4 + 2, none⟩ (.int .i64 r.x.s.wear)).setCell ⟨G, k * 4 + 3, none⟩ (.slice r.x.q r.x.s.ths.length r.x.cap)) (some G) :=
    grown_trans (grown_trans (grown_trans (set_grown _ _ _ _) (set_grown _ _ _ _)) (set_grown _ _ _ _)) (set_grown _ _ _ _)
  have hb := h.b
  have hlt := h.lt
  rw [hG] at hb hlt
  have g3 := h.g3
  rw [hG] at g3
  have so : ∀ o u, (∀ c, c < 4 → o ≠ k * 4 + c) → W.cell? ⟨G, o, none⟩ = some u → ((((W.setCell ⟨G, k * 4, none⟩ (.int .i64 r.x.s.lo)).setCell ⟨G, k * 4 + 1, none⟩ (.int .i64 r.x.s.hi)).setCell ⟨G, k * 4 + 2, none⟩ (.int .i64 r.x.s.wear)).setCell ⟨G, k * 4 + 3, none⟩ (.slice r.x.q r.x.s.ths.length r.x.cap)).cell? ⟨G, o, none⟩ = some u := fun o u ho hu => by
    have a0 := ho 0 (by omega); have a1 := ho 1 (by omega); have a2 := ho 2 (by omega); have a3 := ho 3 (by omega)
    rw [World.cell?_setCell_other _ _ _ _ (addr_ne (by omega)), World.cell?_setCell_other _ _ _ _ (addr_ne (by omega)), World.cell?_setCell_other _ _ _ _ (addr_ne (by omega)), World.cell?_setCell_other _ _ _ _ (addr_ne (by omega))]
    exact hu
  have snew : SpC ((((W.setCell ⟨G, k * 4, none⟩ (.int .i64 r.x.s.lo)).setCell ⟨G, k * 4 + 1, none⟩ (.int .i64 r.x.s.hi)).setCell ⟨G, k * 4 + 2, none⟩ (.int .i64 r.x.s.wear)).setCell ⟨G, k * 4 + 3, none⟩ (.slice r.x.q r.x.s.ths.length r.x.cap)) G (k * 4) r.x := by
    refine ⟨?_, ?_, ?_, ?_⟩
    · rw [World.cell?_setCell_other _ _ _ _ (addr_ne (by omega)), World.cell?_setCell_other _ _ _ _ (addr_ne (by omega)), World.cell?_setCell_other _ _ _ _ (addr_ne (by omega))]
      exact World.cell?_setCell_same _ _ _ o0
    · rw [World.cell?_setCell_other _ _ _ _ (addr_ne (by omega)), World.cell?_setCell_other _ _ _ _ (addr_ne (by omega))]
      exact World.cell?_setCell_same _ _ _ (show _ = some v1 from by rw [World.cell?_setCell_other _ _ _ _ (addr_ne (by omega))]; exact o1)
    · rw [World.cell?_setCell_other _ _ _ _ (addr_ne (by omega))]
      exact World.cell?_setCell_same _ _ _ (show _ = some v2 from by rw [World.cell?_setCell_other _ _ _ _ (addr_ne (by omega)), World.cell?_setCell_other _ _ _ _ (addr_ne (by omega))]; exact o2)
    · exact World.cell?_setCell_same _ _ _ (show _ = some v3 from by rw [World.cell?_setCell_other _ _ _ _ (addr_ne (by omega)), World.cell?_setCell_other _ _ _ _ (addr_ne (by omega)), World.cell?_setCell_other _ _ _ _ (addr_ne (by omega))]; exact o3)
  have getr : ∀ (i : Nat) (r' : Rw), (rs ++ [r])[i]? = some r' → (i < k ∧ rs[i]? = some r') ∨ (i = k ∧ r' = r) := fun i r' hr => by
    by_cases hi : i < k
    · exact .inl ⟨hi, by rwa [List.getElem?_append_left (by omega)] at hr⟩
    · rw [List.getElem?_append_right (by omega)] at hr
      have : i - rs.length = 0 := by
        cases e : i - rs.length with
        | zero => rfl
        | succ m => rw [e] at hr; simp at hr
      rw [this] at hr
      exact .inr ⟨by omega, by simpa using hr.symm⟩
  refine ⟨?_, ?_, ?_, ?_, ?_, ?_, ?_, ?_, ?_⟩
  · rw [hG]
    exact hb.trans ⟨hg.os, hg.tape, hg.output, Nat.le_trans (Nat.le_refl _) hg.size, fun i hi => hg.block i (by omega) (fun e => by injection e with e; omega)⟩
  · rw [hG]; exact Nat.lt_of_lt_of_le hlt hg.size
  · intro o
    rw [hG, World.frozen?_setCell, World.frozen?_setCell, World.frozen?_setCell, World.frozen?_setCell, ← hG]
    exact h.fr o
  · intro o ho
    rw [hG]
    obtain ⟨v, hv⟩ := h.old o ho
    rw [hG] at hv
    obtain ⟨w1, q1⟩ := set_some (a := ⟨G, k * 4, none⟩) (u := .int .i64 r.x.s.lo) hv
    obtain ⟨w2, q2⟩ := set_some (a := ⟨G, k * 4 + 1, none⟩) (u := .int .i64 r.x.s.hi) q1
    obtain ⟨w3, q3⟩ := set_some (a := ⟨G, k * 4 + 2, none⟩) (u := .int .i64 r.x.s.wear) q2
    exact set_some q3
  · rw [hG]
    obtain ⟨q, a, c, hc⟩ := g3
    by_cases e : k = 0
    · subst e
      exact ⟨_, _, _, snew.2.2.2⟩
    · exact ⟨q, a, c, so 3 _ (fun c hc => by omega) hc⟩
  · intro i r' hr
    rw [hG]
    rcases getr i r' hr with ⟨hi, hr⟩ | ⟨rfl, rfl⟩
    · obtain ⟨p0, p1, p2, p3⟩ := h.sp i r' hr
      rw [hG] at p0 p1 p2 p3
      exact ⟨so _ _ (fun c hc => by omega) p0, so _ _ (fun c hc => by omega) p1, so _ _ (fun c hc => by omega) p2, so _ _ (fun c hc => by omega) p3⟩
    · exact snew
  · intro i r' hr
    rw [hG]
    rcases getr i r' hr with ⟨hi, hr⟩ | ⟨rfl, rfl⟩
    · have := h.ot i r' hr
      rw [hG] at this
      exact this.grownX (Nat.lt_succ_self _) hg g3
    · exact hot.grownX (Nat.lt_succ_self _) hg g3
  · intro i r' hr
    rcases getr i r' hr with ⟨hi, hr⟩ | ⟨rfl, rfl⟩
    · exact h.th i r' hr
    · exact hth
  · intro i j r1 r2 h1 h2 hij
    rcases getr i r1 h1 with ⟨hi, k1⟩ | ⟨e1, e2⟩
    · rcases getr j r2 h2 with ⟨hj, k2⟩ | ⟨e3, e4⟩
      · exact h.ne i j r1 r2 k1 k2 hij
      · rw [e4]; exact hne i r1 k1
    · rcases getr j r2 h2 with ⟨hj, k2⟩ | ⟨e3, e4⟩
      · rw [e2]; exact fun e => hne j r2 k2 e.symm
      · omega
/-- One thing more in one of the spells. -/
theorem SMm.turn {W0 W W2 : World} {n : Nat} {rs : List Rw} (h : SMm W0 W n rs) (i : Nat) (r : Rw) (hr : rs[i]? = some r) (hin : i < n) (u : Value) (t : Th) (q' : Option Addr) (c' : Nat)
    (hg : W.grownBy W2 (Value.slice r.x.q r.l.length r.x.cap).ownBlock) (hO : OT W2 (W0.heap.size + 1) (.slice q' (r.l.length + 1) c') (r.l ++ [(u, t)]))
    (hB : (Value.slice q' (r.l.length + 1) c').ownBlock = (Value.slice r.x.q r.l.length r.x.cap).ownBlock ∨ (Value.slice q' (r.l.length + 1) c').ownBlock = some (W.heap.size + 1)) :
    SMm W0 (W2.setCell ⟨W0.heap.size, i * 4 + 3, none⟩ (.slice q' (r.l.length + 1) c')) n (rs.set i ⟨⟨⟨r.x.s.lo, r.x.s.hi, r.x.s.wear, r.x.s.ths ++ [t]⟩, q', c'⟩, r.l ++ [(u, t)]⟩) := by
  have hot := h.ot i r hr
  obtain ⟨e1, e2⟩ := h.th i r hr
  obtain ⟨g, rfg, hgB, hgW⟩ := hot.blk e2
  have hfirst := hot.first e2
  obtain ⟨g', rfg', hgB', hgW'⟩ := OT.blk (l := r.l ++ [(u, t)]) (c := c') (q := q') (by simpa using hO) (by simp)
  rw [rfg, rfg'] at hB
  simp only [Value.ownBlock, Option.some.injEq] at hB
  rw [rfg] at hg
  change W.grownBy W2 (some g) at hg
  have hfirst2 : ∀ x, some g = some x → ∃ ty u, W.cell? ⟨x, 0, none⟩ = some (.iface ty u) := fun x hx => hfirst x (by rw [rfg]; exact hx)
  have hi1 : i < rs.length := (List.getElem?_eq_some_iff.1 hr).1
  obtain ⟨v3, o3⟩ := h.old (i * 4 + 3) (by omega)
  generalize hG : W0.heap.size = G at *
  have hb := h.b
  have hlt := h.lt
  have g3 := h.g3
  rw [hG] at hb hlt g3
  have gG : g ≠ G := by omega
  have cG : ∀ o, W2.cell? ⟨G, o, none⟩ = W.cell? ⟨G, o, none⟩ := fun o => World.cell?_of_block (a := ⟨G, o, none⟩) (hg.block G hlt (fun e => by injection e with e; omega))
  have fG : ∀ o, W2.frozen? ⟨G, o, none⟩ = W.frozen? ⟨G, o, none⟩ := fun o => World.frozen?_of_block (a := ⟨G, o, none⟩) (hg.block G hlt (fun e => by injection e with e; omega))
  have hs := set_grown W2 G (i * 4 + 3) (.slice q' (r.l.length + 1) c')
  have g32 : ∃ q a c, W2.cell? ⟨G, 3, none⟩ = some (.slice q a c) := by
    obtain ⟨q, a, c, hc⟩ := g3
    exact ⟨q, a, c, by rw [cG]; exact hc⟩
  have getr : ∀ (j : Nat) (r' : Rw), (rs.set i ⟨⟨⟨r.x.s.lo, r.x.s.hi, r.x.s.wear, r.x.s.ths ++ [t]⟩, q', c'⟩, r.l ++ [(u, t)]⟩)[j]? = some r' → (j ≠ i ∧ rs[j]? = some r') ∨ (j = i ∧ r' = ⟨⟨⟨r.x.s.lo, r.x.s.hi, r.x.s.wear, r.x.s.ths ++ [t]⟩, q', c'⟩, r.l ++ [(u, t)]⟩) := fun j r' hr' => by
    by_cases e : i = j
    · subst e
      rw [List.getElem?_set_self hi1] at hr'
      exact .inr ⟨rfl, (Option.some.inj hr').symm⟩
    · rw [List.getElem?_set_ne e] at hr'
      exact .inl ⟨Ne.symm e, hr'⟩
  refine ⟨?_, ?_, ?_, ?_, ?_, ?_, ?_, ?_, ?_⟩
  · rw [hG]
    have k1 : Below G W0 W2 := hb.trans ⟨hg.os, hg.tape, hg.output, hg.size, fun x hx => hg.block x (by omega) (fun e => by injection e with e; omega)⟩
    exact k1.setCell (p := ⟨G, i * 4 + 3, none⟩) (Nat.le_refl _) _
  · rw [hG]; exact Nat.lt_of_lt_of_le hlt (Nat.le_trans hg.size hs.size)
  · intro o
    rw [hG, World.frozen?_setCell, fG, ← hG]
    exact h.fr o
  · intro o ho
    rw [hG]
    obtain ⟨v, hv⟩ := h.old o ho
    rw [hG] at hv
    exact set_some (by rw [cG]; exact hv)
  · rw [hG]
    by_cases e : i = 0
    · subst e
      exact ⟨_, _, _, World.cell?_setCell_same _ _ _ (show _ = some v3 from by rw [cG]; exact o3)⟩
    · obtain ⟨q, a, c, hc⟩ := g32
      exact ⟨q, a, c, by rw [World.cell?_setCell_other _ _ _ _ (addr_ne (by omega))]; exact hc⟩
  · intro j r' hr'
    rw [hG]
    rcases getr j r' hr' with ⟨hj, k1⟩ | ⟨e3, e4⟩
    · obtain ⟨p0, p1, p2, p3⟩ := h.sp j r' k1
      rw [hG] at p0 p1 p2 p3
      refine ⟨?_, ?_, ?_, ?_⟩ <;> (rw [World.cell?_setCell_other _ _ _ _ (addr_ne (by omega)), cG]; assumption)
    · obtain ⟨p0, p1, p2, p3⟩ := h.sp i r hr
      rw [hG] at p0 p1 p2 p3
      subst e3 e4
      refine ⟨?_, ?_, ?_, ?_⟩
      · rw [World.cell?_setCell_other _ _ _ _ (addr_ne (by omega)), cG]; exact p0
      · rw [World.cell?_setCell_other _ _ _ _ (addr_ne (by omega)), cG]; exact p1
      · rw [World.cell?_setCell_other _ _ _ _ (addr_ne (by omega)), cG]; exact p2
      · rw [World.cell?_setCell_same _ _ _ (show _ = some v3 from by rw [cG]; exact o3)]
        simp only [List.length_append, List.length_cons, List.length_nil, e1, List.length_map]
  · intro j r' hr'
    rw [hG]
    rcases getr j r' hr' with ⟨hj, k1⟩ | ⟨e3, e4⟩
    · have k2 := h.ot j r' k1
      rw [hG] at k2
      obtain ⟨gj, ej, hgj, hgjW⟩ := k2.blk (h.th j r' k1).2
      have hne : gj ≠ g := fun e => h.ne j i r' r k1 hr hj (by rw [ej, rfg, e])
      have k3 : OT W2 (G + 1) (.slice r'.x.q r'.l.length r'.x.cap) r'.l := by
        refine ⟨?_, fun p hp => (k2.at' p hp).grownG hg hfirst2⟩
        obtain ⟨h1, h2 | ⟨g0, cap, cur, ee, hg2, hc, h3, h4, h5, h6⟩⟩ := k2.own
        · exact ⟨h1, .inl h2⟩
        · have : g0 = gj := by
            rw [ej] at ee
            injection ee with ee _ _
            injection ee with ee
            injection ee with ee
            exact ee.symm
          exact ⟨h1, .inr ⟨g0, cap, cur, ee, hg2, by rw [hg.block g0 (Array.getElem?_eq_some_iff.1 hc).1 (fun e => by injection e with e; omega)]; exact hc, h3, h4, h5, h6⟩⟩
      exact k3.grownX (Nat.lt_succ_self _) hs g32
    · subst e4
      have := hO.grownX (Nat.lt_succ_self _) hs g32
      simpa using this
  · intro j r' hr'
    rcases getr j r' hr' with ⟨hj, k1⟩ | ⟨e3, e4⟩
    · exact h.th j r' k1
    · subst e4
      exact ⟨by simp [e1], by simp⟩
  · have key : ∀ (j : Nat) (r' : Rw), rs[j]? = some r' → j ≠ i → r'.x.q ≠ q' := fun j r' k1 hj => by
      have k2 := h.ot j r' k1
      obtain ⟨gj, ej, hgj, hgjW⟩ := k2.blk (h.th j r' k1).2
      have hne : gj ≠ g := fun e => h.ne j i r' r k1 hr hj (by rw [ej, rfg, e])
      rw [ej, rfg']
      intro e
      injection e with e
      injection e with e
      omega
    intro a b r1 r2 h1 h2 hab
    rcases getr a r1 h1 with ⟨hi, k1⟩ | ⟨e1, e2⟩
    · rcases getr b r2 h2 with ⟨hj, k2⟩ | ⟨e3, e4⟩
      · exact h.ne a b r1 r2 k1 k2 hab
      · rw [e4]; exact key a r1 k1 hi
    · rcases getr b r2 h2 with ⟨hj, k2⟩ | ⟨e3, e4⟩
      · rw [e2]; exact fun e => key b r2 k2 hj e.symm
      · omega
end Go.Proofs.YtcejmfgbfdhflaaGreat
