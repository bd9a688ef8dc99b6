import Derived.RangeFuncNested
import Derived.RangeFuncBound
import Derived.RangeFuncCalls
import Derived.RangeFuncLeaves
import Derived.Test.YtmfhpddeclggfaaGreatDoorGd
import Derived.RangeFuncBox
import Derived.Shelf.Abstract
import Derived.Shelf.RegionOpen
import Derived.OwnWalkIn
import Derived.TacticsInMore
import Derived.LoopNIn
import Derived.LoopIn
import Derived.Maps.AppendAt
import Derived.Maps.OwnIn
import Derived.RegionIn
import Derived.BigRegionIn
import Derived.Stop.RegionWithIn
import Derived.WalkKit
import Derived.Test.YtmfhpddeclggfaaGreatDoorROverlay
import Derived.Test.YtmfhpddeclggfaaGreatDoorCw
import Derived.LoopTactic
import Derived.WalkSpells
import Derived.WalkLawsBesides
import Derived.Lib.Hide
import Derived.BigQuiet
import Derived.IntWalk
import Derived.Deep.DeepMust
import Derived.WalkSmall
import Derived.StillTailTactics
import Derived.Deep.RegionLaw
import Derived.Deep.QuietTactic
import Derived.Deep.Cut
import Derived.Deep.DeepCutAuto
import Derived.Deep.LoopGhost
import Derived.Laws.AppendOwn
namespace Go.Proofs.YtmfhpddeclggfaaGreatDoor
open Go.RowKit
/-! cutParts. -/
open Go.Shelf
attribute [local go_sem] Oper.semAt_some
/-- A part as it lies: with the block of its bytes. -/
structure CB where
  p : PT
  b : Nat
  cap : Nat
def fdS (f : Bool) : ByteArray := if f = true then ⟨#[10]⟩ else ⟨#[]⟩
def flatC : List CB → List Value
  | [] => []
  | x :: l => .slice (some ⟨x.b, 0, none⟩) x.p.c.length x.cap :: .string (fdS x.p.fd) :: .bool x.p.lo :: flatC l
theorem flatC_app (l m : List CB) : flatC (l ++ m) = flatC l ++ flatC m := by
  induction l with
  | nil => rfl
  | cons p l ih => simp [flatC, ih]
theorem flatC_one : ∀ {l : List CB}, ∀ u ∈ flatC l, u.oneCell' = true
  | [], u, h => by simp [flatC] at h
  | p :: l, u, h => by
    simp only [flatC, List.mem_cons] at h
    rcases h with rfl | rfl | rfl | h
    · rfl
    · rfl
    · rfl
    · exact flatC_one u h
theorem flatC_get : ∀ {l : List CB} {j : Nat} {q : CB}, l[j]? = some q → (flatC l)[j * 3]? = some (.slice (some ⟨q.b, 0, none⟩) q.p.c.length q.cap) ∧ (flatC l)[j * 3 + 1]? = some (.string (fdS q.p.fd)) ∧ (flatC l)[j * 3 + 2]? = some (.bool q.p.lo)
  | [], _, _, h => by simp at h
  | p :: l, 0, q, h => by
    obtain rfl : p = q := by simpa using h
    exact ⟨rfl, rfl, rfl⟩
  | p :: l, j + 1, q, h => by
    have ih := flatC_get (l := l) (j := j) (q := q) (by simpa using h)
    rw [show (j + 1) * 3 = j * 3 + 1 + 1 + 1 from by omega]
    simpa [flatC] using ih
/-- The bytes of a part lie in a block of its own, behind B, that is not v's. -/
structure ByAt (B : Nat) (W : World) (v : Value) (x : CB) : Prop where
  ge : B ≤ x.b
  lt : x.b < W.heap.size
  ne : some x.b ≠ v.ownBlock
  cb : ∀ i, i < x.p.c.length → W.cell? ⟨x.b, i, none⟩ = some (.int .u8 ((x.p.c.getD i 0).toNat : Int))
  fb : ∀ i, i < x.p.c.length → W.frozen? ⟨x.b, i, none⟩ = false
  hc : x.p.c.length ≤ x.cap
  hl : x.p.c.length ≤ 1000000
structure PL (B : Nat) (W : World) (v : Value) (cs : List CB) : Prop where
  row : W.ownsRow B 156 3 v cs.length (flatC cs)
  con : ∀ x ∈ cs, ByAt B W v x
  dis : cs.Pairwise fun x y => x.b ≠ y.b
theorem PL.nil (B : Nat) (W : World) : PL B W (.slice none 0 0) [] := ⟨World.ownsRow_nil _ _ _ _, fun x h => absurd h (by simp), List.Pairwise.nil⟩
theorem ByAt.blk {B : Nat} {W W' : World} {v : Value} {x : CB} (h : ByAt B W v x) (hs : W.heap.size ≤ W'.heap.size) (hb : W'.heap[x.b]? = W.heap[x.b]?) : ByAt B W' v x :=
  ⟨h.ge, Nat.lt_of_lt_of_le h.lt hs, h.ne, fun i hi => (World.cell?_of_block (a := ⟨x.b, i, none⟩) hb).trans (h.cb i hi), fun i hi => (World.frozen?_of_block (a := ⟨x.b, i, none⟩) hb).trans (h.fb i hi), h.hc, h.hl⟩
theorem PL.below {B : Nat} {W W' : World} {v : Value} {cs : List CB} (h : PL B W v cs) (hb : Below W.heap.size W W') : PL B W' v cs :=
  ⟨ownsRow_keep h.row hb, fun x hx => (h.con x hx).blk hb.size (hb.block _ (h.con x hx).lt), h.dis⟩
theorem PL.grown {B : Nat} {W W' : World} {v : Value} {cs : List CB} {row : Option Nat} (h : PL B W v cs) (hg : W.grownBy W' row) (hr : ∀ r, row = some r → r < B) : PL B W' v cs := by
  refine ⟨h.row.kept hg ?_, fun x hx => (h.con x hx).blk hg.size (hg.block _ (h.con x hx).lt (fun e => by have h1 := hr _ e.symm; have h2 := (h.con x hx).ge; omega)), h.dis⟩
  cases hv : v.ownBlock with
  | none => exact .inl rfl
  | some g => exact .inr (fun e => by have h1 := (h.row.lt g hv).1; have h2 := hr g e.symm; omega)
theorem PL.add {B : Nat} {W W' : World} {v v' : Value} {cs : List CB} {x : CB} (h : PL B W v cs) (hx : ByAt B W v x) (hn : ∀ y ∈ cs, y.b < x.b) (hown : W'.ownsRow B 156 3 v' (cs.length + 1) (flatC cs ++ flatC [x])) (hgr : W.grownBy W' v.ownBlock) (hat : v'.ownBlock = v.ownBlock ∨ v'.ownBlock = some W.heap.size) : PL B W' v' (cs ++ [x]) := by
  have key : ∀ y ∈ cs ++ [x], ByAt B W v y := fun y hy => by
    rcases List.mem_append.1 hy with hy | hy
    · exact h.con y hy
    · obtain rfl := List.mem_singleton.1 hy; exact hx
  refine ⟨by rw [List.length_append, flatC_app]; exact hown, fun y hy => ?_, ?_⟩
  · have k := key y hy
    have k2 := k.blk hgr.size (hgr.block _ k.lt k.ne)
    refine ⟨k2.ge, k2.lt, fun e => ?_, k2.cb, k2.fb, k2.hc, k2.hl⟩
    rcases hat with ha | ha
    · exact k.ne (e.trans ha)
    · rw [ha] at e; have h1 := Option.some.inj e; have h2 := k.lt; omega
  · rw [List.pairwise_append]
    exact ⟨h.dis, List.pairwise_singleton _ _, fun y hy z hz => by obtain rfl := List.mem_singleton.1 hz; have := hn y hy; omega⟩
theorem PL.putObj {B : Nat} {W : World} {v : Value} {cs : List CB} {l : Nat} (y : Obj) (h : PL B W v cs) (hr : (W.putObj l y).ownsRow B 156 3 v cs.length (flatC cs)) (hl : l < B) : PL B (W.putObj l y) v cs :=
  ⟨hr, fun x hx => (h.con x hx).blk (grownBy_putObj' W l y).size ((grownBy_putObj' W l y).block _ (h.con x hx).lt (fun e => by have h1 := Option.some.inj e; have h2 := (h.con x hx).ge; omega)), h.dis⟩
theorem bytes_at (W : World) (T : ByteArray) (v : Value) (fd : Bool) (B : Nat) (hB : B ≤ W.heap.size) (hv : ∀ k, v.ownBlock = some k → k < W.heap.size) (hT : T.size ≤ 1000000) : ByAt B (Lib.bytesWorld W 5 T) v ⟨⟨T.data.toList, fd, false⟩, W.heap.size, grownCap W T.size 0 5⟩ := by
  have e : T.data.toList.length = T.size := by simp
  refine ⟨hB, by rw [Lib.bytesWorld_size]; exact Nat.lt_succ_self _, fun e => absurd (hv _ e.symm) (Nat.lt_irrefl _), fun i hi => ?_, fun i hi => ?_, ?_, ?_⟩
  · exact Lib.bytesWorld_cell W 5 T i (by rw [← e]; exact hi)
  · exact frozen_bytes W 5 T i (by rw [← e]; exact hi)
  · show T.data.toList.length ≤ _; rw [e]; exact grownCap_ge _ _ _ _
  · show T.data.toList.length ≤ _; rw [e]; exact hT
theorem fourA_w (w : World) (s : ByteArray) : ∃ Wl, (((w.alloc (.cells #[.slice none 0 0] 151)).alloc (.cells #[.string s] 9)).alloc (.cells #[.string ⟨#[10]⟩] 9)).alloc (.cells #[.int .i64 1] 3) = Wl ∧ Wl.heap.size = w.heap.size + 4 ∧ Below w.heap.size w Wl ∧
    SpA Wl (w.heap.size + 1 + 1) (w.heap.size + 1) (w.heap.size + 1 + 2) s ∧ Boxed Wl w.heap.size 151 (.slice none 0 0) := by
  refine ⟨_, rfl, by simp, (((below_alloc1 w _).alloc (by simp) _).alloc (by simp; omega) _).alloc (by simp; omega) _, ⟨?_, ?_, ?_, ?_⟩, (((Boxed.new w 151 _).alloc _).alloc _).alloc _⟩ <;> go_simp
theorem SpA.below {W W' : World} {B b1 b2 b3 : Nat} {s : ByteArray} (h : SpA W b1 b2 b3 s) (hb : Below B W W') (q1 : b1 < B) (q2 : b2 < B) (q3 : b3 < B) : SpA W' b1 b2 b3 s :=
  ⟨(hb.cell (p := ⟨b1, 0, none⟩) q1).trans h.c1, (hb.cell (p := ⟨b2, 0, none⟩) q2).trans h.c2, (hb.frozen (p := ⟨b2, 0, none⟩) q2).trans h.f2, (hb.cell (p := ⟨b3, 0, none⟩) q3).trans h.c3⟩
/-- What has been gathered. -/
structure CP (w W : World) (N : Nat) (v : Value) (cs : List CB) (ps : List PT) : Prop where
  bx : Boxed W w.heap.size 151 v
  pl : PL N W v cs
  bel : Below w.heap.size w W
  le : N ≤ W.heap.size
  eq : cs.map CB.p = ps
theorem inf156 : (Tryz.prog.info? 156).map (fun i => (i.zero, i.size, i.bytes)) = some (some (.agg #[.slice none 0 0, .string ⟨#[]⟩, .bool false]), 3, 48) := by kernel_rfl
theorem seqA_size {s x : ByteArray} (h : x ∈ seqA s) : x.size ≤ s.size + 1 := by
  have key : ∀ (k : Nat) (r : ByteArray), x ∈ Lib.splitB ⟨#[10]⟩ 1 k r → x.size ≤ r.size + 1 := fun k => by
    induction k with
    | zero => intro r h; obtain rfl := List.mem_singleton.1 h; exact Nat.le_succ _
    | succ k ih =>
      intro r h
      rcases Lib.indexB_cases r ⟨#[10]⟩ with hi | ⟨i, hi, hil⟩
      · rw [Lib.splitB_miss _ _ _ _ hi] at h
        obtain rfl := List.mem_singleton.1 h; exact Nat.le_succ _
      · rw [Lib.splitB_hit _ _ _ _ _ hi] at h
        rcases List.mem_cons.1 h with rfl | h
        · rw [ByteArray.size_extract]; omega
        · have := ih _ h
          rw [ByteArray.size_extract] at this
          omega
  exact key _ _ h
theorem fl_new (W : World) (b n : Nat) (x : CB) (hn : x.p.c.length = n) (hb : W.heap.size = b) : ∀ j u, (flatC [x])[j]? = some u → (W.alloc (.cells #[.slice (some ⟨x.b, 0, none⟩) n x.cap, .string (fdS x.p.fd), .bool x.p.lo] 156)).cell? ((⟨b, 0, none⟩ : Addr).add j) = some u := by
  subst hb
  subst hn
  exact cells_new W #[.slice (some ⟨x.b, 0, none⟩) x.p.c.length x.cap, .string (fdS x.p.fd), .bool x.p.lo] 156
theorem CP.below {w W W' : World} {N : Nat} {v : Value} {cs : List CB} {ps : List PT} (h : CP w W N v cs ps) (hb : Below W.heap.size W W') : CP w W' N v cs ps :=
  ⟨boxed_below h.bx hb h.bx.lt, h.pl.below hb, h.bel.trans (hb.mono h.bel.size), Nat.le_trans h.le hb.size, h.eq⟩
theorem CP.add {w W W' : World} {N : Nat} {v v' : Value} {cs : List CB} {ps : List PT} {x : CB} (h : CP w W N v cs ps) (hN : w.heap.size < N) (hx : ByAt N W v x) (hn : ∀ y ∈ cs, y.b < x.b) (hown : W'.ownsRow N 156 3 v' (cs.length + 1) (flatC cs ++ flatC [x])) (hgr : W.grownBy W' v.ownBlock) (hat : v'.ownBlock = v.ownBlock ∨ v'.ownBlock = some W.heap.size) : CP w (W'.setCell ⟨w.heap.size, 0, none⟩ v') N v' (cs ++ [x]) (ps ++ [x.p]) := by
  have hlt : ∀ k, v.ownBlock = some k → N ≤ k := fun k e => (h.pl.row.lt _ e).1
  refine ⟨(h.bx.kept hgr (fun e => by have := hlt _ e.symm; omega)).set _, (h.pl.add hx hn hown hgr hat).grown (grownBy_setCellAt W' w.heap.size 0 _) (fun r e => by cases e; omega), ?_, ?_, by rw [List.map_append, h.eq]; rfl⟩
  · exact (h.bel.grown hgr h.bel.size (fun k e => by have := hlt k e; have := h.bel.size; omega)).setCell (p := ⟨w.heap.size, 0, none⟩) (Nat.le_refl _) _
  · rw [World.size_setCell]; exact Nat.le_trans h.le hgr.size
theorem trim_le (l p : List UInt8) : (Lib.trimSuffix l p).length ≤ l.length := by
  unfold Lib.trimSuffix
  split
  · rw [List.length_take]; omega
  · exact Nat.le_refl _
set_option maxRecDepth 100000 in
set_option maxHeartbeats 8000000 in
theorem sCutParts (s : ByteArray) (w : World) (hs : s.size ≤ 100000) (he : Env w) : Calls Tryz.prog 101 #[.string s] w fun e w' => ∃ v cs, e = .returned v ∧ Below w.heap.size w w' ∧ PL w.heap.size w' v cs ∧ cs.map CB.p = partsH s := by
  refine (callsIn_wide (n := 9)).1 ?_
  refine callsIn_of_wp_marks Tryz.func101 rfl trivial ?_ rfl
  simp only [Tryz.ntmps101, List.size_toArray, List.length_cons, List.length_nil, Nat.reduceAdd, Nat.reduceSub, Array.replicate_succ, Array.replicate_zero, List.push_toArray, List.append_toArray, List.nil_append, List.cons_append]
  have HE := Lib.hid he
  have h8 := he.size
  have HS := Lib.hid hs
  clear he hs
  have CS := fun W => SplitAfterSeq0 s W
  gi_wp2_with (refine ⟨trivial, ?_⟩; gi_at_call 136; refine (callsIn_wide.2 (CS _)).mono ?_; rintro e w' ⟨rfl, rfl⟩)
  obtain ⟨Wl, hWl, hsz, hby, hsp, hbx⟩ := fourA_w w s
  rw [hWl]
  clear hWl CS
  refine wpIn_range_Q rfl (by omega) (by decide) (gf := 182) (lb := #[.pointer (some ⟨w.heap.size + 1 + 1, 0, none⟩), .pointer (some ⟨w.heap.size + 1, 0, none⟩), .pointer (some ⟨w.heap.size + 1 + 2, 0, none⟩)]) rfl trivial (enters_of Tryz.func182 (by kernel_rfl) rfl)
    (enc := Value.string) (Pv := fun k => w.heap.size + 1 ≤ k ∧ k < w.heap.size + 4) (fun k hk => by omega) (xs := seqA s)
    (fun W hb => splitSeqA 8 (by omega) _ _ _ _ (by omega) (by omega) (by omega) (by omega) (by omega) (by omega) s (by have := HS.out; omega) W (HE.out.next (hby.trans (hb.mono (by omega)))) ?_) rfl
    (fun k => w.heap.size + 1 ≤ k ∧ k < w.heap.size + 6) (fun k => by omega)
    (fun pre W => ∃ v cs, CP w W (w.heap.size + 6) v cs (pre.flatMap gA)) (fun _ _ => False) ?_ (fun _ _ _ _ h _ _ => h.elim) ?_
    (fun x => { tmps := #[Value.string s, undef, Value.slice none 0 0, Value.pointer (some { block := w.heap.size, off := 0 }), Value.string x, undef, undef, undef, Value.string s,
          Value.func (Fn.func 182) #[]
            #[Value.pointer (some { block := w.heap.size + 1 + 1, off := 0 }),
              Value.pointer (some { block := w.heap.size + 1, off := 0 }),
              Value.pointer (some { block := w.heap.size + 1 + 2, off := 0 })],
          Value.string x, undef, undef, undef, undef, undef, undef, undef, undef, undef, undef, undef, undef, undef, undef, undef, undef, undef], defers := [] }) ?assign ?body ?done (fun _ _ _ h => h.elim)
  · exact hsp.below hb (by omega) (by omega) (by omega)
  · rintro p A B row ⟨v, cs, hv, hp, hb, hNs, heq⟩ hg hrow
    exact ⟨v, cs, hv.kept hg (fun e => by have := hrow _ e.symm; omega), hp.grown hg (fun r e => (hrow r e).2), hb.grown hg (by have := hb.size; omega) (fun k e => by have := hrow _ e; omega), Nat.le_trans hNs hg.size, heq⟩
  · intro W hb hs1
    exact ⟨_, [], boxed_below hbx hb (by omega), PL.nil _ _, hby.trans (hb.mono (by omega)), by omega, rfl⟩
  case assign =>
    intro l2 x W K hK
    gi_wp2
    exact hK
  case body =>
    rintro l2 pre x W ⟨v, cs, hC⟩ hpre
    have hxs : x.size ≤ 100001 := by have h1 := seqA_size (hpre.subset (by simp : x ∈ pre ++ [x])); have := HS.out; omega
    have HC := Lib.hid hC
    have hlen : pre.length ≤ 100001 := by
      have h2 := hpre.length_le
      have h4 := Lib.splitB_length_le ⟨#[10]⟩ 1 s.size s
      have h5 := HS.out
      unfold seqA at h2
      rw [List.length_append] at h2
      omega
    have HFM : Hid ((pre ++ [x]).flatMap gA = pre.flatMap gA ++ gA x) := by unfold Hid; rw [List.flatMap_append, List.flatMap_cons, List.flatMap_nil, List.append_nil]
    have HCL : Hid (cs.length ≤ 100001) := by
      have h1 := congrArg List.length hC.eq
      have h2 : ∀ l : List ByteArray, (l.flatMap gA).length ≤ l.length := fun l => by
        induction l with
        | nil => exact Nat.le_refl _
        | cons y l ih =>
          rw [List.flatMap_cons, List.length_append, List.length_cons]
          have : (gA y).length ≤ 1 := by unfold gA; split <;> simp
          omega
      have h3 := h2 pre
      rw [List.length_map] at h1
      unfold Hid; omega
    clear hC hpre hlen
    by_cases hx : x.data.toList = []
    · have hx2 : x.toList.isEmpty = true := by rw [ByteArray.toList_eq, hx]; rfl
      have hx' : x.toList = [] := by rw [ByteArray.toList_eq, hx]
      have HG : Hid (gA x = []) := by unfold Hid gA; rw [if_pos hx]
      clear hx
      gi_wp2
      exact ⟨fun _ _ => rfl, v, cs, by rw [HFM.out, HG.out, List.append_nil]; exact HC.out⟩
    · have hx2 : x.toList.isEmpty = false := by
        rw [ByteArray.toList_eq]
        cases h : x.data.toList with
        | nil => exact absurd h hx
        | cons a l => rfl
      have hx' : ¬ x.toList = [] := by rw [ByteArray.toList_eq]; exact hx
      obtain ⟨T, hT⟩ : ∃ T, Hid ((⟨(Lib.trimSuffix x.data.toList [10]).toArray⟩ : ByteArray) = T) := ⟨_, rfl⟩
      have hTl : Hid (Lib.trimSuffix x.data.toList [10] = T.data.toList) := by rw [← hT.out]; unfold Hid; rfl
      have hTs : T.size ≤ 100001 := by
        have h1 := trim_le x.data.toList [10]
        rw [hTl.out] at h1
        have h2 : T.data.toList.length = T.size := by simp
        have h3 : x.data.toList.length = x.size := by simp
        omega
      have CU : Calls Tryz.prog 131 #[.string x, .string ⟨#[10]⟩] W fun e w' => e = .returned (.tuple #[.string T, .bool (Lib.hasSuffix x.data.toList [10])]) ∧ w' = W := by
        have := Tryz.strings_CutSuffix x ⟨#[10]⟩ W (by omega)
        rw [← hT.out]
        exact this
      have hcv := Lib.run_convert_string_bytes (P := Tryz.prog) W 9 106 5 T Tryz.underlying9 und106 Tryz.underlying5
      obtain ⟨gc, hgc⟩ : ∃ gc, Hid (grownCap W T.size 0 5 = gc) := ⟨_, rfl⟩
      obtain ⟨W1, hW1⟩ : ∃ W1, Hid (Lib.bytesWorld W 5 T = W1) := ⟨_, rfl⟩
      have HBW : Hid (Below W.heap.size W W1) := by rw [← hW1.out]; exact Lib.bytesWorld_below W 5 T
      have CW1 := Lib.hid (HC.out.below HBW.out)
      obtain ⟨n, hn⟩ : ∃ n, Hid (T.data.toList.length = n) := ⟨_, rfl⟩
      have hn2 : T.size = n := by rw [← hn.out]; simp
      rw [hW1.out, hgc.out, hn2] at hcv
      have HLm : Hid (cs.length + 1 ≤ maxLen) := by have := HCL.out; unfold Hid maxLen; omega
      have HLb : Hid ((cs.length + 1) * 48 ≤ 140737488355328) := by have := HCL.out; unfold Hid; omega
      obtain ⟨i0, hi, hz0, hz1, hz4⟩ := info_parts inf156
      cases hfd : Lib.hasSuffix x.data.toList [10] with
      | true =>
        have HG : Hid (gA x = [⟨T.data.toList, true, false⟩]) := by unfold Hid gA; rw [if_neg hx, hfd, ← hT.out]
        have BA : Hid (ByAt (w.heap.size + 6) W1 v ⟨⟨T.data.toList, true, false⟩, W.heap.size, gc⟩) := by
          have := bytes_at W T v true (w.heap.size + 6) HC.out.le (fun k e => (HC.out.pl.row.lt k e).2) (by omega)
          rw [hW1.out, hgc.out] at this
          exact this
        rw [hfd] at CU
        have CU1 := Lib.hid CU
        clear CU hfd hx
        have C2 := Lib.hid (CW1.out.below (below_alloc1 W1 (.cells #[.slice (some ⟨W.heap.size, 0, none⟩) n gc, .string ⟨#[10]⟩, .bool false] 156)))
        have BA2 : Hid (ByAt (w.heap.size + 6) (W1.alloc (.cells #[.slice (some ⟨W.heap.size, 0, none⟩) n gc, .string ⟨#[10]⟩, .bool false] 156)) v ⟨⟨T.data.toList, true, false⟩, W.heap.size, gc⟩) := BA.out.blk (below_alloc1 W1 (.cells #[.slice (some ⟨W.heap.size, 0, none⟩) n gc, .string ⟨#[10]⟩, .bool false] 156)).size ((below_alloc1 W1 (.cells #[.slice (some ⟨W.heap.size, 0, none⟩) n gc, .string ⟨#[10]⟩, .bool false] 156)).block _ BA.out.lt)
        have hc2 := C2.out.bx.cell
        have hne : Hid (some w.heap.size ≠ v.ownBlock) := fun e => by have := (C2.out.pl.row.lt _ e.symm).1; omega
        have HB2 := Lib.hid (below_alloc1 W1 (.cells #[.slice (some ⟨W.heap.size, 0, none⟩) n gc, .string ⟨#[10]⟩, .bool false] 156))
        have HSZ2 : Hid (W1.heap.size ≤ (W1.alloc (.cells #[.slice (some ⟨W.heap.size, 0, none⟩) n gc, .string ⟨#[10]⟩, .bool false] 156)).heap.size) := HB2.out.size
        clear hTs
        gi_wp2_with (first | (refine ⟨trivial, ?_⟩; gi_at_call 131; refine (CallsIn.inRound l2 (callsIn_wide.2 CU1.out)).mono ?_; rintro e w2 ⟨rfl, e2⟩; have e3 := e2.symm; subst e3) | (gi_at_builtin; (refine wpListIn_append_own_at _ rfl (.tmp 23) (.tmp 25) 151 rfl (w.heap.size + 6) 156 i0 (.agg #[.slice none 0 0, .string ⟨#[]⟩, .bool false]) 3 48 Tryz.underlying151 hi hz0 hz1 hz4 rfl (by decide) v cs.length (flatC cs) rfl (C2.out.pl.row.alloc _) ⟨W1.heap.size + 1, 0, none⟩ 1 1 (flatC [(⟨⟨T.data.toList, true, false⟩, W.heap.size, gc⟩ : CB)]) rfl rfl (fl_new _ _ _ _ hn.out (by simp)) flatC_one HLm.out HLb.out (by have h1 := C2.out.le; simp only [World.size_alloc] at h1 ⊢; omega) ?_); intro v' w4 hown hgrow _ hat; obtain ⟨g', cap', rfl⟩ := ownsRow_succ hown; have hv4 := Lib.hid ((C2.out.bx.alloc _).kept hgrow hne.out); have hc4 := hv4.out.cell; have hf4 := hv4.out.frozen; have HO := Lib.hid hown; have HGr := Lib.hid hgrow; have HA := Lib.hid hat; clear hown hgrow hat))
        have hle := C2.out.le
        have h4 := HGr.out.size
        simp only [World.size_alloc] at h4
        refine ⟨fun k hk => ?_, .slice (some ⟨g', 0, none⟩) (cs.length + 1) cap', cs ++ [(⟨⟨T.data.toList, true, false⟩, W.heap.size, gc⟩ : CB)], ?_⟩
        · have hkN : k < w.heap.size + 6 := by rcases hk with h | h <;> omega
          have hkw : k ≠ w.heap.size := by rcases hk with h | h <;> omega
          have hWs := HC.out.le
          have hb1 := HBW.out.size
          have hb2 := HB2.out.size
          refine ((grownBy_setCellAt w4 (w.heap.size) 0 _).block k (by omega) (fun e => hkw (Option.some.inj e))).trans ?_
          refine (HGr.out.block k (by simp only [World.size_alloc]; omega) (fun e => by have := (C2.out.pl.row.lt k e.symm).1; omega)).trans ?_
          refine (Below.heap_alloc _ _ k (by omega)).trans ?_
          exact (HB2.out.block k (by omega)).trans (HBW.out.block k (by omega))
        · rw [HFM.out, HG.out]
          refine CP.add (x := ⟨⟨T.data.toList, true, false⟩, W.heap.size, gc⟩) (C2.out.below (below_alloc1 _ _)) (by omega) (BA2.out.blk (below_alloc1 _ _).size ((below_alloc1 _ _).block _ BA2.out.lt)) (fun y hy => (HC.out.pl.con y hy).lt) HO.out HGr.out ?_
          simpa using HA.out
      | false =>
        have HG : Hid (gA x = [⟨T.data.toList, false, false⟩]) := by unfold Hid gA; rw [if_neg hx, hfd, ← hT.out]
        have BA : Hid (ByAt (w.heap.size + 6) W1 v ⟨⟨T.data.toList, false, false⟩, W.heap.size, gc⟩) := by
          have := bytes_at W T v false (w.heap.size + 6) HC.out.le (fun k e => (HC.out.pl.row.lt k e).2) (by omega)
          rw [hW1.out, hgc.out] at this
          exact this
        rw [hfd] at CU
        have CU1 := Lib.hid CU
        clear CU hfd hx
        have C2 := Lib.hid (CW1.out.below (below_alloc1 W1 (.cells #[.slice (some ⟨W.heap.size, 0, none⟩) n gc, .string ⟨#[]⟩, .bool false] 156)))
        have BA2 : Hid (ByAt (w.heap.size + 6) (W1.alloc (.cells #[.slice (some ⟨W.heap.size, 0, none⟩) n gc, .string ⟨#[]⟩, .bool false] 156)) v ⟨⟨T.data.toList, false, false⟩, W.heap.size, gc⟩) := BA.out.blk (below_alloc1 W1 (.cells #[.slice (some ⟨W.heap.size, 0, none⟩) n gc, .string ⟨#[]⟩, .bool false] 156)).size ((below_alloc1 W1 (.cells #[.slice (some ⟨W.heap.size, 0, none⟩) n gc, .string ⟨#[]⟩, .bool false] 156)).block _ BA.out.lt)
        have hc2 := C2.out.bx.cell
        have hne : Hid (some w.heap.size ≠ v.ownBlock) := fun e => by have := (C2.out.pl.row.lt _ e.symm).1; omega
        have HB2 := Lib.hid (below_alloc1 W1 (.cells #[.slice (some ⟨W.heap.size, 0, none⟩) n gc, .string ⟨#[]⟩, .bool false] 156))
        have HSZ2 : Hid (W1.heap.size ≤ (W1.alloc (.cells #[.slice (some ⟨W.heap.size, 0, none⟩) n gc, .string ⟨#[]⟩, .bool false] 156)).heap.size) := HB2.out.size
        clear hTs
        gi_wp2_with (first | (refine ⟨trivial, ?_⟩; gi_at_call 131; refine (CallsIn.inRound l2 (callsIn_wide.2 CU1.out)).mono ?_; rintro e w2 ⟨rfl, e2⟩; have e3 := e2.symm; subst e3) | (gi_at_builtin; (refine wpListIn_append_own_at _ rfl (.tmp 23) (.tmp 25) 151 rfl (w.heap.size + 6) 156 i0 (.agg #[.slice none 0 0, .string ⟨#[]⟩, .bool false]) 3 48 Tryz.underlying151 hi hz0 hz1 hz4 rfl (by decide) v cs.length (flatC cs) rfl (C2.out.pl.row.alloc _) ⟨W1.heap.size + 1, 0, none⟩ 1 1 (flatC [(⟨⟨T.data.toList, false, false⟩, W.heap.size, gc⟩ : CB)]) rfl rfl (fl_new _ _ _ _ hn.out (by simp)) flatC_one HLm.out HLb.out (by have h1 := C2.out.le; simp only [World.size_alloc] at h1 ⊢; omega) ?_); intro v' w4 hown hgrow _ hat; obtain ⟨g', cap', rfl⟩ := ownsRow_succ hown; have hv4 := Lib.hid ((C2.out.bx.alloc _).kept hgrow hne.out); have hc4 := hv4.out.cell; have hf4 := hv4.out.frozen; have HO := Lib.hid hown; have HGr := Lib.hid hgrow; have HA := Lib.hid hat; clear hown hgrow hat))
        have hle := C2.out.le
        have h4 := HGr.out.size
        simp only [World.size_alloc] at h4
        refine ⟨fun k hk => ?_, .slice (some ⟨g', 0, none⟩) (cs.length + 1) cap', cs ++ [(⟨⟨T.data.toList, false, false⟩, W.heap.size, gc⟩ : CB)], ?_⟩
        · have hkN : k < w.heap.size + 6 := by rcases hk with h | h <;> omega
          have hkw : k ≠ w.heap.size := by rcases hk with h | h <;> omega
          have hWs := HC.out.le
          have hb1 := HBW.out.size
          have hb2 := HB2.out.size
          refine ((grownBy_setCellAt w4 (w.heap.size) 0 _).block k (by omega) (fun e => hkw (Option.some.inj e))).trans ?_
          refine (HGr.out.block k (by simp only [World.size_alloc]; omega) (fun e => by have := (C2.out.pl.row.lt k e.symm).1; omega)).trans ?_
          refine (Below.heap_alloc _ _ k (by omega)).trans ?_
          exact (HB2.out.block k (by omega)).trans (HBW.out.block k (by omega))
        · rw [HFM.out, HG.out]
          refine CP.add (x := ⟨⟨T.data.toList, false, false⟩, W.heap.size, gc⟩) (C2.out.below (below_alloc1 _ _)) (by omega) (BA2.out.blk (below_alloc1 _ _).size ((below_alloc1 _ _).block _ BA2.out.lt)) (fun y hy => (HC.out.pl.con y hy).lt) HO.out HGr.out ?_
          simpa using HA.out
  case done =>
    rintro W ⟨v, cs, h⟩ hK
    have hc := h.bx.cell
    have HB := Lib.hid h
    have HK := Lib.hid hK
    clear h hK
    gi_wp2
    refine ⟨by simp, .inl ⟨_, _, rfl, run_takeDeferred HK.out, ?_⟩⟩
    refine ⟨_, results_tmp rfl _ _ _, v, cs, rfl, ?_, ?_, by rw [HB.out.eq]; exact seqA_parts s.size s (Nat.le_refl _)⟩
    · exact HB.out.bel.grown (grownBy_putObj' W _ _) HB.out.bel.size (fun k e => by cases e; omega)
    · have h1 := HB.out.pl.putObj (l := Wl.heap.size) (.deferred none) (ownsRow_putObj HB.out.pl.row (.deferred none) HK.out rfl) (by omega)
      exact ⟨ownsRow_base h1.row (by omega), fun x hx => ⟨by have := (h1.con x hx).ge; omega, (h1.con x hx).lt, (h1.con x hx).ne, (h1.con x hx).cb, (h1.con x hx).fb, (h1.con x hx).hc, (h1.con x hx).hl⟩, h1.dis⟩
end Go.Proofs.YtmfhpddeclggfaaGreatDoor
