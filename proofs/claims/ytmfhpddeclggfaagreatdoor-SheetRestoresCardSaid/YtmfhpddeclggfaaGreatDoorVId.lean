import Derived.Test.YtmfhpddeclggfaaGreatDoorVIc
import Derived.WalkKit
import Derived.LoopTactic
import Derived.WalkSpells
import Derived.WalkLawsBesides
import Derived.Lib.Hide
import Derived.BigQuiet
import Derived.IntWalk
import Derived.Deep.DeepMust
import Derived.WalkSmall
import Derived.StillTailTactics
import Derived.Deep.RegionLaw
import Derived.Deep.QuietTactic
import Derived.Carry
import Derived.Laws.Tables
namespace Go.Proofs.YtmfhpddeclggfaaGreatDoor
open Go.RowKit
/-! The desk that is laid of a shelf of scraps. -/
/-- The desk of the first copies. -/
def layF (ss : List (List Sc)) : Nat → DS
  | 0 => ds0
  | k + 1 => (ss.getD k []).foldl (adD k) (layF ss k)
/-- No list of a desk is longer. -/
structure SzD (d : DS) (c : Nat) : Prop where
  fr : ∀ n, (d.rs n).length ≤ c
  fc : ∀ n t, (d.cp n t).length ≤ c
  fo : ∀ n, (d.os n).length ≤ c
theorem SzD.mono {d : DS} {c c' : Nat} (h : SzD d c) (hc : c ≤ c') : SzD d c' := ⟨fun n => Nat.le_trans (h.fr n) hc, fun n t => Nat.le_trans (h.fc n t) hc, fun n => Nat.le_trans (h.fo n) hc⟩
theorem adD_sz (k : Int) (d : DS) (s : Sc) {c : Nat} (h : SzD d c) : SzD (adD k d s) (c + 1) := by
  have h1 := h.fr
  have h2 := h.fc
  have h3 := h.fo
  unfold adD
  split
  · refine ⟨fun n => ?_, fun n t => ?_, fun n => Nat.le_succ_of_le (h3 n)⟩
    · have := h1 n
      dsimp only
      split
      · split <;> simp <;> omega
      · omega
    · have := h2 n t
      have := addL_le (d.cp n t) k
      dsimp only
      split <;> omega
  · refine ⟨fun n => Nat.le_succ_of_le (h1 n), fun n t => Nat.le_succ_of_le (h2 n t), fun n => ?_⟩
    have := h3 n
    dsimp only
    split
    · simp; omega
    · omega
theorem adF_sz (k : Int) : ∀ (l : List Sc) (d : DS) {c : Nat}, SzD d c → SzD (l.foldl (adD k) d) (c + l.length)
  | [], _, _, h => h
  | s :: l, d, c, h => by
    have := adF_sz k l (adD k d s) (adD_sz k d s h)
    rw [List.foldl_cons, List.length_cons, show c + (l.length + 1) = c + 1 + l.length from by omega]
    exact this
theorem ds0_sz : SzD ds0 0 := ⟨fun _ => Nat.le_refl _, fun _ _ => Nat.le_refl _, fun _ => Nat.le_refl _⟩
theorem layF_sz (ss : List (List Sc)) (m : Nat) (h : ∀ j, (ss.getD j []).length ≤ m) : ∀ k, SzD (layF ss k) (k * m)
  | 0 => ds0_sz.mono (Nat.zero_le _)
  | k + 1 => by
    refine (adF_sz k (ss.getD k []) (layF ss k) (layF_sz ss m h k)).mono ?_
    have := h k
    rw [Nat.succ_mul]; omega
theorem adF_snoc (k : Int) (d : DS) (l : List Sc) (j : Nat) (s : Sc) (h : l[j]? = some s) : (l.take (j + 1)).foldl (adD k) d = adD k ((l.take j).foldl (adD k) d) s := by
  obtain ⟨hj, rfl⟩ := List.getElem?_eq_some_iff.1 h
  rw [List.take_succ_eq_append_getElem hj, List.foldl_append]
  rfl
/-- Scraps of copies, as they lie. -/
def ShelfAt (W : World) (p : Option Addr) (ss : List (List Sc)) : Prop := ss = [] ∨ ∃ b, p = some ⟨b, 0, none⟩ ∧ b < W.heap.size ∧ ∀ j, j < ss.length → ∃ q c, W.cell? ⟨b, j, none⟩ = some (.slice q (ss.getD j []).length c) ∧ ScAt 0 W q (ss.getD j [])
theorem ShelfAt.below {W W' : World} {p : Option Addr} {ss : List (List Sc)} (h : ShelfAt W p ss) (hb : Below W.heap.size W W') : ShelfAt W' p ss := by
  rcases h with h | ⟨b, h1, h2, h3⟩
  · exact .inl h
  · refine .inr ⟨b, h1, Nat.lt_of_lt_of_le h2 hb.size, fun j hj => ?_⟩
    obtain ⟨q, c, g1, g2⟩ := h3 j hj
    exact ⟨q, c, (hb.cell (p := ⟨b, j, none⟩) h2).trans g1, g2.below hb⟩
/-- A desk that is laid anew. -/
theorem desk_0 (W : World) (cs : Array Value) (h0 : cs.toList[0]? = some (.int .i64 0)) (h1 : ∀ n, n ≤ 400 → cs.toList[1 + n]? = some (.slice none 0 0)) (h3 : ∀ n, n ≤ 400 → cs.toList[403 + n]? = some (.slice none 0 0)) (h2 : cs.toList[402]? = some (.map (some W.heap.size))) :
    DeskAt ((W.alloc (.map #[] 0)).alloc (.cells cs 212)) (W.heap.size + 2) (W.heap.size + 1) W.heap.size ds0 := by
  have hc : ∀ o v, cs.toList[o]? = some v → ((W.alloc (.map #[] 0)).alloc (.cells cs 212)).cell? ⟨W.heap.size + 1, o, none⟩ = some v := by
    intro o v h
    have := nw_at (W.alloc (.map #[] 0)) cs 212 o v h
    rwa [World.size_alloc] at this
  have hfz : ∀ o, ((W.alloc (.map #[] 0)).alloc (.cells cs 212)).frozen? ⟨W.heap.size + 1, o, none⟩ = false := by
    intro o
    have := frozen_new (W.alloc (.map #[] 0)) cs 212 o
    rwa [World.size_alloc] at this
  refine ⟨fun _ => .slice none 0 0, fun _ => .slice none 0 0, fun _ _ => .slice none 0 0, [], ⟨hc 0 _ h0, fun n hn => hc _ _ (h1 n hn), fun n hn => hc _ _ (h3 n hn), hc _ _ h2, hfz, ?_⟩, ⟨fun i => ?_, fun i j g hi => ?_⟩, by simp, by omega, by omega, fun _ _ => rfl, fun _ _ => by simp [idxL, ds0]⟩
  · refine ⟨#[], 0, ?_, rfl⟩
    rw [(grown_al (W.alloc (.map #[] 0)) (.cells cs 212)).block W.heap.size (by simp) (by simp)]
    exact heap_last _ _
  · match i with
    | .inl (.inl _) => exact World.ownsRow_nil _ _ _ _
    | .inl (.inr _) => exact World.ownsRow_nil _ _ _ _
    | .inr _ => exact World.ownsRow_nil _ _ _ _
  · match i with
    | .inl (.inl _) => cases hi
    | .inl (.inr _) => cases hi
    | .inr _ => cases hi
theorem rep_in2 (N M : Nat) (x y z : Value) (n : Nat) (h : n < M) : (y :: (List.replicate N x ++ z :: List.replicate M x))[N + 2 + n]? = some x := by
  rw [show N + 2 + n = (N + 1 + n) + 1 from by omega, List.getElem?_cons_succ, List.getElem?_append_right (by rw [List.length_replicate]; omega), List.length_replicate, show N + 1 + n - N = n + 1 from by omega, List.getElem?_cons_succ, List.getElem?_replicate, if_pos h]
theorem dk_cells2 (m : Nat) : ∀ n, n ≤ 400 → (Tryz.zeroCells212.setIfInBounds 402 (.map (some m))).toList[403 + n]? = some (.slice none 0 0) := by
  have e : (Tryz.zeroCells212.setIfInBounds 402 (.map (some m))).toList = .int .i64 0 :: (List.replicate 401 (.slice none 0 0) ++ .map (some m) :: List.replicate 401 (.slice none 0 0)) := by kernel_rfl
  intro n hn
  rw [e]
  exact rep_in2 401 401 _ _ _ n (Nat.lt_succ_of_le hn)
theorem bnd_take (k j n m : Nat) (l : List Sc) (hk : k < n) (hn : n ≤ 8) (hj : j < m) (hm : m ≤ 100000) : k * 100000 + (l.take j).length ≤ 1000000 := by
  have h1 : (l.take j).length ≤ 100000 := by rw [List.length_take]; omega
  exact Nat.le_trans (Nat.add_le_add (Nat.mul_le_mul_right 100000 (show k ≤ 8 by omega)) h1) (by decide)
set_option maxRecDepth 100000 in
set_option maxHeartbeats 4000000 in
theorem lay_any (p : Option Addr) (cap : Nat) (ss : List (List Sc)) (W : World) (hl : ss.length ≤ 8) (hn : ∀ j, ∀ s ∈ ss.getD j [], 1 ≤ s.n ∧ s.n ≤ 400) (hc : ∀ j, (ss.getD j []).length ≤ 100000) (hp : ShelfAt W p ss) :
    Calls Tryz.prog 140 #[.slice p ss.length cap] W fun e w' => e = .returned (.pointer (some ⟨W.heap.size + 1, 0, none⟩)) ∧ DeskAt w' (W.heap.size + 2) (W.heap.size + 1) W.heap.size (layF ss ss.length) ∧ Below W.heap.size W w' := by
  have HP := Lib.hid hp
  have HN := Lib.hid hn
  have HC := Lib.hid hc
  have hmm := @run_makeMap Tryz.prog
  obtain ⟨k0, k1, k2⟩ := dk_cells W.heap.size
  have k3 := dk_cells2 W.heap.size
  obtain ⟨cs, hcs⟩ : ∃ cs, Tryz.zeroCells212.setIfInBounds 402 (.map (some W.heap.size)) = cs := ⟨_, rfl⟩
  rw [hcs] at k0 k1 k2 k3
  have HL0 := Lib.hid (desk_0 W cs k0 k1 k3 k2)
  have hB0 : Below W.heap.size W ((W.alloc (.map #[] 0)).alloc (.cells cs 212)) := ((Below.refl _ _).alloc (Nat.le_refl _) _).alloc (by simp) _
  obtain ⟨W1, hW1⟩ : ∃ W1, (W.alloc (.map #[] 0)).alloc (.cells cs 212) = W1 := ⟨_, rfl⟩
  rw [hW1] at HL0 hB0
  have HB0 := Lib.hid hB0
  obtain ⟨N, hN⟩ : ∃ N, Hid (ss.length = N) := ⟨_, rfl⟩
  rw [hN.out] at hl ⊢
  clear k0 k1 k2 k3 hp hn hc hB0
  go_enter Tryz.func140, Tryz.ntmps140
  go_wp2_with fail
  clear hcs hW1 hmm
  go_loopw [13] (fun i wr => ∃ k : Nat, k ≤ N ∧ i = .int .i64 k ∧ Hid (DeskAt wr (W.heap.size + 2) (W.heap.size + 1) W.heap.size (layF ss k)) ∧ Hid (Below W.heap.size W wr)) (fun i _ => N - (intOf i).toNat)
  case atStart => exact ⟨0, Nat.zero_le _, rfl, HL0, HB0⟩
  case round =>
    clear HL0 HB0
    obtain ⟨k, hk, rfl, DA, HB⟩ := hrel
    by_cases hlt : k < N
    · have hkl : k < ss.length := by rw [hN.out]; exact hlt
      obtain ⟨b, rfl, hbl, hb2⟩ := HP.out.resolve_left (fun e => by rw [e] at hkl; exact absurd hkl (by simp))
      obtain ⟨q, c, cx, hsc⟩ := hb2 k hkl
      have cx := (HB.out.cell (p := ⟨b, k, none⟩) hbl).trans cx
      have HSC := Lib.hid hsc
      have HNK := Lib.hid (HN.out k)
      have HCK := Lib.hid (HC.out k)
      have HSZ := Lib.hid (layF_sz ss 100000 HC.out k)
      have HLF : Hid (layF ss (k + 1) = (ss.getD k []).foldl (adD k) (layF ss k)) := rfl
      obtain ⟨d0, hd0⟩ : ∃ d0, layF ss k = d0 := ⟨_, rfl⟩
      obtain ⟨l, hll⟩ : ∃ l, ss.getD k [] = l := ⟨_, rfl⟩
      rw [hd0] at DA HLF HSZ
      rw [hll] at HLF HSC HNK HCK cx
      obtain ⟨m, hm⟩ : ∃ m, Hid (l.length = m) := ⟨_, rfl⟩
      rw [hm.out] at HCK cx
      have hml := HCK.out
      have hlt' : (k : Int) < (N : Int) := by omega
      have hk0 : (0 : Int) ≤ (k : Int) := by omega
      clear hb2 hsc hd0 hll
      go_wp2_with fail
      go_loopw [20] (fun i wz => ∃ j : Nat, j ≤ m ∧ i = .int .i64 j ∧ Hid (DeskAt wz (W.heap.size + 2) (W.heap.size + 1) W.heap.size ((l.take j).foldl (adD k) d0)) ∧ Hid (Below W.heap.size W wz)) (fun i _ => m - (intOf i).toNat)
      case atStart => exact ⟨0, Nat.zero_le _, rfl, by rw [List.take_zero]; exact DA, HB⟩
      case round =>
        clear DA HB
        obtain ⟨j, hj, rfl, DA, HB⟩ := hrel
        by_cases hlt2 : j < m
        · have hjl : j < l.length := by rw [hm.out]; exact hlt2
          obtain ⟨g, rfl, -, hgl, hcells⟩ := (HSC.out.below HB.out).resolve_left (fun e => by rw [e] at hjl; exact absurd hjl (by simp))
          obtain ⟨⟨sn, st, sb⟩, hs⟩ : ∃ s, l[j]? = some s := ⟨_, List.getElem?_eq_getElem hjl⟩
          obtain ⟨c0, c1, c2⟩ := hcells j _ hs
          have HA := Lib.hid (adF_snoc k d0 l j _ hs)
          have hs1 := HNK.out _ (List.mem_of_getElem? hs)
          have SZ := (adF_sz k (l.take j) d0 HSZ.out).mono (bnd_take k j N m l hlt hl hlt2 hml)
          have AD := Lib.hid (addD_any (W.heap.size + 2) (W.heap.size + 1) W.heap.size W.heap.size (by omega) (Nat.le_refl _) _ k ⟨sn, st, sb⟩ (wr.alloc (.cells #[.int .i64 sn, .string st, .bool sb] 224)) (DA.out.below (below_alloc1 _ _)) hs1.1 hs1.2 SZ.fr SZ.fc SZ.fo)
          have HX : Hid (Below W.heap.size wr (wr.alloc (.cells #[.int .i64 sn, .string st, .bool sb] 224))) := (Below.refl _ _).alloc HB.out.size _
          have y0 : (wr.alloc (.cells #[.int .i64 sn, .string st, .bool sb] 224)).cell? ⟨wr.heap.size, 0, none⟩ = some (.int .i64 sn) := nw_at wr _ 224 0 _ rfl
          have y1 : (wr.alloc (.cells #[.int .i64 sn, .string st, .bool sb] 224)).cell? ⟨wr.heap.size, 1, none⟩ = some (.string st) := nw_at wr _ 224 1 _ rfl
          have y2 : (wr.alloc (.cells #[.int .i64 sn, .string st, .bool sb] 224)).cell? ⟨wr.heap.size, 2, none⟩ = some (.bool sb) := nw_at wr _ 224 2 _ rfl
          have hlt2' : (j : Int) < (m : Int) := by omega
          have hj0 : (0 : Int) ≤ (j : Int) := by omega
          dsimp only at c0 c1 c2 AD
          clear hcells hs hs1 SZ HSZ HLF
          go_wp2_with fail
          refine AD.out.mono ?_
          rintro e w2 ⟨rfl, hd2, hb2, hs2⟩
          have R2 : Hid (DeskAt w2 (W.heap.size + 2) (W.heap.size + 1) W.heap.size ((l.take (j + 1)).foldl (adD k) d0)) := by unfold Hid; rw [HA.out]; exact hd2
          have R3 : Hid (Below W.heap.size W w2) := (HB.out.trans HX.out).trans hb2
          clear hd2 hb2 hs2 AD DA HB HX HA
          go_wp2_with fail
          exact ⟨⟨j + 1, by omega, by go_num, R2, R3⟩, by simp [intOf]; omega⟩
        · obtain rfl : j = m := by omega
          have hst : Hid (layF ss (k + 1) = (l.take j).foldl (adD k) d0) := by
            unfold Hid
            rw [HLF.out, List.take_of_length_le (by rw [hm.out]; exact Nat.le_refl _)]
          go_wp2_with fail
          exact ⟨⟨k + 1, by omega, by go_num, by rw [hst.out]; exact DA, HB⟩, by simp [intOf]; omega⟩
    · obtain rfl : k = N := by omega
      go_wp2_with fail
      go_ret
      exact ⟨rfl, DA.out, HB.out⟩
end Go.Proofs.YtmfhpddeclggfaaGreatDoor
