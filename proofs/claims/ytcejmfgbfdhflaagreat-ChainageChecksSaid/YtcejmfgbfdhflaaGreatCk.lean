import Derived.Test.YtcejmfgbfdhflaaGreatCj
import Derived.WalkKit
import Derived.LoopTactic
import Derived.WalkSpells
import Derived.WalkLawsBesides
import Derived.Lib.Hide
import Derived.BigQuiet
import Derived.IntWalk
import Derived.Deep.DeepMust
import Derived.WalkSmall
import Derived.StillTailTactics
import Derived.Deep.RegionLaw
import Derived.Deep.RegionHeld3
import Derived.Deep.QuietTactic
namespace Go.Proofs.YtcejmfgbfdhflaaGreat
open Go.RowKit Go.Shelf Go.BigFrame Go.Sort
attribute [local go_sem] World.cell?_alloc_some
/-- How many years are not later. -/
def cntU (ys : List Int) (y : Int) : Nat := ys.countP fun z => decide (z ≤ y)
theorem cntU_range (ys : List Int) (y : Int) (n : Nat) (hn : ys.length = n) : (List.range n).countP (fun i => !(decide (y < ys[i]!))) = cntU ys y := by
  subst hn
  unfold cntU
  have e : ys = (List.range ys.length).map (fun i => ys[i]!) := by
    apply List.ext_getElem
    · simp
    · intro j h1 h2
      simp [List.getElem?_eq_getElem h1]
  conv => rhs; rw [e]
  rw [List.countP_map]
  congr 1
  funext i
  simp only [Function.comp]
  rw [Bool.eq_iff_iff]; simp
theorem cntU_le (ys : List Int) (y : Int) : cntU ys y ≤ ys.length := List.countP_le_length
/-- Years that go up. -/
def upB (ys : List Int) : Prop := ys.Pairwise (· ≤ ·)
theorem up_mono {ys : List Int} (h : upB ys) (y : Int) (a b : Nat) (hab : a ≤ b) (hb : b < ys.length) (hp : decide (y < ys[a]!) = true) : decide (y < ys[b]!) = true := by
  have ha : a < ys.length := by omega
  rw [getElem!_pos ys a ha] at hp
  rw [getElem!_pos ys b hb]
  simp only [decide_eq_true_eq] at *
  by_cases e : a = b
  · subst e; exact hp
  · have := (List.pairwise_iff_getElem.1 h) a b ha hb (by omega)
    omega
set_option maxRecDepth 100000 in
set_option maxHeartbeats 1600000 in
theorem later_any (b o n cap : Nat) (i : Nat) (y : Int) (t : Th) (v : Value) (B0 B1 B2 : Nat) (w : World) (hi : i < n) (hv : w.cell? ⟨b, o + i, none⟩ = some v) (ht : ThAt w v t)
    (h0 : w.cell? ⟨B0, 0, none⟩ = some (.slice (some ⟨b, o, none⟩) n cap)) (h1 : w.cell? ⟨B1, 0, none⟩ = some (.int .i64 y)) (h2 : w.cell? ⟨B2, 0, none⟩ = some (.func (.func 178) #[] #[])) :
    Calls Tryz.prog 212 #[.int .i64 (i : Int), .pointer (some ⟨B2, 0, none⟩), .pointer (some ⟨B0, 0, none⟩), .pointer (some ⟨B1, 0, none⟩)] w fun e w' => e = .returned (.bool (decide (y < t.year))) ∧ Gr w w' := by
  have C1 := fun W (h : Gr w W) => yearOf_any v t W (ht.keep h.below)
  obtain ⟨C, hC0, HC, LC, BC, hne⟩ := clsG (StG.nil w)
  haveI := hne
  have k : ∀ (a : Addr) (u : Value), w.cell? a = some u → ∀ n : Wd C, n.w.cell? a = some u := fun a u h n => ((BC.out n).below.cell (World.block_lt_of_cell? w _ h)).trans h
  have f0 := k _ _ h0
  have f1 := k _ _ h1
  have f2 := k _ _ h2
  have f3 := k _ _ hv
  have hi' : (i : Int) < (n : Int) := by omega
  have D1 := cinGL HC BC C1
  have HB := Lib.hid (fun n : Wd C => BC.out n)
  obtain ⟨c0, rfl⟩ : ∃ n : Wd C, w = n.w := ⟨⟨_, hC0⟩, rfl⟩
  clear h0 h1 h2 hv ht C1 k hC0
  go_enter Tryz.func212, Tryz.ntmps212
  go_wp2_with fail
  refine wp_region_in C (HC.out _ _ (Wd.h _) (Gr.dr _)) (by kernel_rfl) (by kernel_rfl) ?_
  repeat (go_big_quiet_step (first | with_reducible exact (D1 _).out))
  refine wpQuiet_nil ?_
  intro wx hwx
  obtain ⟨n, rfl⟩ : ∃ n : Wd C, wx = n.w := ⟨⟨wx, hwx⟩, rfl⟩
  clear hwx
  go_wp2_with fail
  go_ret
  exact ⟨rfl, HB.out _⟩
theorem search_any (g : Nat) (cb : Array Value) (n : Nat) (p : Nat → Bool) (w : World) (eg : ∀ args w, (callFunc g args).run Tryz.prog w = .ok (.enter g args) w) (hsz : n ≤ 1000000)
    (hf : ∀ W, Gr w W → ∀ i : Nat, i < n → Calls Tryz.prog g (#[.int .i64 i] ++ cb) W fun e w' => e = .returned (.bool (p i)) ∧ Gr W w')
    (hmono : ∀ a b, a ≤ b → b < n → p a = true → p b = true) :
    Calls Tryz.prog 211 #[.int .i64 n, .func (.func g) #[] cb] w fun e w' => e = .returned (.int .i64 ((List.range n).countP (fun i => !p i) : Nat)) ∧ Gr w w' :=
  Any.sort_Search Tryz.searchL g cb n p w eg (by omega) (fun m os i hi => hf _ ⟨m, os, rfl⟩ i hi) hmono
set_option maxRecDepth 100000 in
set_option maxHeartbeats 1600000 in
theorem lastT_any (b o n cap : Nat) (l : List (Value × Th)) (y : Int) (w : World) (hn : l.length = n) (hl : n ≤ 1000000) (hc : ∀ j p, l[j]? = some p → w.cell? ⟨b, o + j, none⟩ = some p.1 ∧ ThAt w p.1 p.2)
    (hup : upB (l.map fun p => p.2.year)) :
    Calls Tryz.prog 177 #[.slice (some ⟨b, o, none⟩) n cap, .int .i64 y, .func (.func 178) #[] #[]] w fun e w' => e = .returned (.int .i64 ((cntU (l.map fun p => p.2.year) y : Nat) - 1 : Int)) ∧ Gr w w' := by
  have S0 := ((StG.nil w).box #[.slice (some ⟨b, o, none⟩) n cap] 109 _ rfl).box #[.int .i64 y] 3 (w.heap.size + 1) (by simp)
  have S1 := S0.box #[.func (.func 178) #[] #[]] 203 (w.heap.size + 1 + 1) (by simp)
  have hys : (l.map fun p => p.2.year).length = n := by simp [hn]
  have K : ∀ W, Gr w W → Cs W [(w.heap.size + 1 + 1, 0, .func (.func 178) #[] #[]), (w.heap.size + 1, 0, .int .i64 y), (w.heap.size, 0, .slice (some ⟨b, o, none⟩) n cap)] →
      Calls Tryz.prog 211 #[.int .i64 n, .func (.func 212) #[] #[.pointer (some ⟨w.heap.size + 1 + 1, 0, none⟩), .pointer (some ⟨w.heap.size, 0, none⟩), .pointer (some ⟨w.heap.size + 1, 0, none⟩)]] W fun e w' => e = .returned (.int .i64 (cntU (l.map fun p => p.2.year) y : Nat)) ∧ Gr W w' := fun W hW hcs => by
    have := search_any 212 #[.pointer (some ⟨w.heap.size + 1 + 1, 0, none⟩), .pointer (some ⟨w.heap.size, 0, none⟩), .pointer (some ⟨w.heap.size + 1, 0, none⟩)] n (fun i => decide (y < (l.map fun p => p.2.year)[i]!)) W (enters_of Tryz.func212 (by kernel_rfl) rfl) hl
      (fun W' hW' i hi => by
        obtain ⟨p, hp⟩ : ∃ p, l[i]? = some p := ⟨_, List.getElem?_eq_getElem (by omega)⟩
        obtain ⟨k1, k2⟩ := hc i p hp
        have hg := (hW.trans hW').below
        have hcs' := hcs.keep hW'.below
        have := later_any b o n cap i y p.2 p.1 w.heap.size (w.heap.size + 1) (w.heap.size + 1 + 1) W' hi ((hg.cell (World.block_lt_of_cell? w _ k1)).trans k1) (k2.keep hg) hcs'.2.2.1.2.1 hcs'.2.1.2.1 hcs'.1.2.1
        have e : (l.map fun p => p.2.year)[i]! = p.2.year := by rw [getElem!_pos _ i (by simp; omega)]; simp [List.getElem?_eq_some_iff.1 hp |>.2]
        rw [e]; exact this)
      (fun a b hab hb => up_mono hup y a b hab (by omega))
    rwa [cntU_range _ y n hys] at this
  obtain ⟨N, hN⟩ : ∃ N, cntU (l.map fun p => p.2.year) y = N := ⟨_, rfl⟩
  have hN1 : N ≤ 1000000 := by have := cntU_le (l.map fun p => p.2.year) y; omega
  rw [hN] at K ⊢
  have HK := Lib.hid K
  have HS := Lib.hid S1
  clear K S0 S1 hys hN hup hc
  go_enter Tryz.func177, Tryz.ntmps177
  go_wp2_with fail
  refine (HK.out _ HS.out.b HS.out.c).mono ?_
  rintro e w' ⟨rfl, hg⟩
  have HG := Lib.hid (HS.out.b.trans hg)
  clear hg HK HS
  go_wp2_with fail
  go_ret
  exact ⟨rfl, HG.out⟩
theorem set4 {n b : Nat} {w W : World} (h : Below n w W) (hb : n ≤ b) (v0 v1 v2 v3 : Value) :
    Below n w ((((W.setCell ⟨b, 0, none⟩ v0).setCell ⟨b, 1, none⟩ v1).setCell ⟨b, 2, none⟩ v2).setCell ⟨b, 3, none⟩ v3) :=
  (((h.setCell (p := ⟨b, 0, none⟩) hb _).setCell (p := ⟨b, 1, none⟩) hb _).setCell (p := ⟨b, 2, none⟩) hb _).setCell (p := ⟨b, 3, none⟩) hb _
/-- A spell, and where its things lie. -/
structure SV where
  s : Spl
  q : Option Addr
  cap : Nat
abbrev SV.v (x : SV) : Value := x.s.v x.q x.cap
/-- A spell's cells. -/
def SpC (W : World) (b o : Nat) (x : SV) : Prop :=
  W.cell? ⟨b, o, none⟩ = some (.int .i64 x.s.lo) ∧ W.cell? ⟨b, o + 1, none⟩ = some (.int .i64 x.s.hi) ∧ W.cell? ⟨b, o + 2, none⟩ = some (.int .i64 x.s.wear) ∧ W.cell? ⟨b, o + 3, none⟩ = some (.slice x.q x.s.ths.length x.cap)
set_option maxHeartbeats 400000 in
theorem spYear_any (x : SV) (w : World) : Calls Tryz.prog 179 #[x.v] w fun e w' => e = .returned (.int .i64 x.s.lo) ∧ Gr w w' := by
  obtain ⟨⟨lo, hi, wear, ths⟩, q, cap⟩ := x
  simp only [SV.v, Spl.v]
  go_enter Tryz.func179, Tryz.ntmps179
  go_wp2_with fail
  go_ret
  exact ⟨rfl, Gr.al _ _⟩
set_option maxRecDepth 100000 in
set_option maxHeartbeats 1600000 in
theorem laterS_any (b o n cap : Nat) (i : Nat) (y : Int) (x : SV) (B0 B1 B2 : Nat) (w : World) (hi : i < n) (hv : SpC w b (o + i * 4) x)
    (h0 : w.cell? ⟨B0, 0, none⟩ = some (.slice (some ⟨b, o, none⟩) n cap)) (h1 : w.cell? ⟨B1, 0, none⟩ = some (.int .i64 y)) (h2 : w.cell? ⟨B2, 0, none⟩ = some (.func (.func 179) #[] #[])) :
    Calls Tryz.prog 214 #[.int .i64 (i : Int), .pointer (some ⟨B2, 0, none⟩), .pointer (some ⟨B0, 0, none⟩), .pointer (some ⟨B1, 0, none⟩)] w fun e w' => e = .returned (.bool (decide (y < x.s.lo))) ∧ Gr w w' := by
  have C1 := fun W (_ : Gr w W) => spYear_any x W
  obtain ⟨C, hC0, HC, LC, BC, hne⟩ := clsG (StG.nil w)
  haveI := hne
  have k : ∀ (a : Addr) (u : Value), w.cell? a = some u → ∀ n : Wd C, n.w.cell? a = some u := fun a u h n => ((BC.out n).below.cell (World.block_lt_of_cell? w _ h)).trans h
  obtain ⟨⟨lo, hh, wear, ths⟩, q, cp⟩ := x
  obtain ⟨v0, v1, v2, v3⟩ := hv
  have f0 := k _ _ h0
  have f1 := k _ _ h1
  have f2 := k _ _ h2
  have f3 := k _ _ v0
  have f4 := k _ _ v1
  have f5 := k _ _ v2
  have f6 := k _ _ v3
  have hi' : (i : Int) < (n : Int) := by omega
  have D1 := cinGL HC BC C1
  have HB := Lib.hid (fun n : Wd C => BC.out n)
  obtain ⟨c0, rfl⟩ : ∃ n : Wd C, w = n.w := ⟨⟨_, hC0⟩, rfl⟩
  clear h0 h1 h2 v0 v1 v2 v3 C1 k hC0
  simp only [SV.v, Spl.v] at *
  go_enter Tryz.func214, Tryz.ntmps214
  go_wp2_with fail
  refine wp_region_in C (HC.out _ _ (Wd.h _) (Gr.dr _)) (by kernel_rfl) (by kernel_rfl) ?_
  repeat (go_big_quiet_step (first | with_reducible exact (D1 _).out))
  refine wpQuiet_nil ?_
  intro wx hwx
  obtain ⟨n, rfl⟩ : ∃ n : Wd C, wx = n.w := ⟨⟨wx, hwx⟩, rfl⟩
  clear hwx
  go_wp2_with fail
  go_ret
  exact ⟨rfl, HB.out _⟩
set_option maxRecDepth 100000 in
set_option maxHeartbeats 1600000 in
theorem lastS_any (b o n cap : Nat) (l : List SV) (y : Int) (w : World) (hn : l.length = n) (hl : n ≤ 1000000) (hc : ∀ j x, l[j]? = some x → SpC w b (o + j * 4) x)
    (hup : upB (l.map fun x => x.s.lo)) :
    Calls Tryz.prog 188 #[.slice (some ⟨b, o, none⟩) n cap, .int .i64 y, .func (.func 179) #[] #[]] w fun e w' => e = .returned (.int .i64 ((cntU (l.map fun x => x.s.lo) y : Nat) - 1 : Int)) ∧ Gr w w' := by
  have S0 := ((StG.nil w).box #[.slice (some ⟨b, o, none⟩) n cap] 158 _ rfl).box #[.int .i64 y] 3 (w.heap.size + 1) (by simp)
  have S1 := S0.box #[.func (.func 179) #[] #[]] 227 (w.heap.size + 1 + 1) (by simp)
  have hys : (l.map fun x => x.s.lo).length = n := by simp [hn]
  have K : ∀ W, Gr w W → Cs W [(w.heap.size + 1 + 1, 0, .func (.func 179) #[] #[]), (w.heap.size + 1, 0, .int .i64 y), (w.heap.size, 0, .slice (some ⟨b, o, none⟩) n cap)] →
      Calls Tryz.prog 211 #[.int .i64 n, .func (.func 214) #[] #[.pointer (some ⟨w.heap.size + 1 + 1, 0, none⟩), .pointer (some ⟨w.heap.size, 0, none⟩), .pointer (some ⟨w.heap.size + 1, 0, none⟩)]] W fun e w' => e = .returned (.int .i64 (cntU (l.map fun x => x.s.lo) y : Nat)) ∧ Gr W w' := fun W hW hcs => by
    have := search_any 214 #[.pointer (some ⟨w.heap.size + 1 + 1, 0, none⟩), .pointer (some ⟨w.heap.size, 0, none⟩), .pointer (some ⟨w.heap.size + 1, 0, none⟩)] n (fun i => decide (y < (l.map fun x => x.s.lo)[i]!)) W (enters_of Tryz.func214 (by kernel_rfl) rfl) hl
      (fun W' hW' i hi => by
        obtain ⟨p, hp⟩ : ∃ p, l[i]? = some p := ⟨_, List.getElem?_eq_getElem (by omega)⟩
        obtain ⟨k1, k2, k3, k4⟩ := hc i p hp
        have hg := (hW.trans hW').below
        have hcs' := hcs.keep hW'.below
        have f : ∀ (a : Addr) (u : Value), w.cell? a = some u → W'.cell? a = some u := fun a u h => (hg.cell (World.block_lt_of_cell? w _ h)).trans h
        have := laterS_any b o n cap i y p w.heap.size (w.heap.size + 1) (w.heap.size + 1 + 1) W' hi ⟨f _ _ k1, f _ _ k2, f _ _ k3, f _ _ k4⟩ hcs'.2.2.1.2.1 hcs'.2.1.2.1 hcs'.1.2.1
        have e : (l.map fun x => x.s.lo)[i]! = p.s.lo := by rw [getElem!_pos _ i (by simp; omega)]; simp [List.getElem?_eq_some_iff.1 hp |>.2]
        rw [e]; exact this)
      (fun a b hab hb => up_mono hup y a b hab (by omega))
    rwa [cntU_range _ y n hys] at this
  obtain ⟨N, hN⟩ : ∃ N, cntU (l.map fun x => x.s.lo) y = N := ⟨_, rfl⟩
  have hN1 : N ≤ 1000000 := by have := cntU_le (l.map fun x => x.s.lo) y; omega
  rw [hN] at K ⊢
  have HK := Lib.hid K
  have HS := Lib.hid S1
  clear K S0 S1 hys hN hup hc
  go_enter Tryz.func188, Tryz.ntmps188
  go_wp2_with fail
  refine (HK.out _ HS.out.b HS.out.c).mono ?_
  rintro e w' ⟨rfl, hg⟩
  have HG := Lib.hid (HS.out.b.trans hg)
  clear hg HK HS
  go_wp2_with fail
  go_ret
  exact ⟨rfl, HG.out⟩
set_option maxRecDepth 100000 in
set_option maxHeartbeats 1600000 in
/-- The spell that contains a year. -/
theorem spellOf_any (b o n cap : Nat) (l : List SV) (y : Int) (w : World) (hn : l.length = n) (hl : n ≤ 1000000) (hb : b < w.heap.size) (hc : ∀ j x, l[j]? = some x → SpC w b (o + j * 4) x)
    (hup : upB (l.map fun x => x.s.lo)) (k : Nat) (x : SV) (hk : cntU (l.map fun x => x.s.lo) y = k + 1) (hx : l[k]? = some x) :
    Calls Tryz.prog 137 #[.slice (some ⟨b, o, none⟩) n cap, .int .i64 y] w fun e w' => e = .returned x.v ∧ Below w.heap.size w w' := by
  have C1 := fun W (hW : Below w.heap.size w W) => lastS_any b o n cap l y W hn hl (fun j x hj => by
    obtain ⟨k1, k2, k3, k4⟩ := hc j x hj
    have f : ∀ (a : Addr) (u : Value), w.cell? a = some u → W.cell? a = some u := fun a u h => (hW.cell (World.block_lt_of_cell? w _ h)).trans h
    exact ⟨f _ _ k1, f _ _ k2, f _ _ k3, f _ _ k4⟩) hup
  simp only [hk] at C1
  obtain ⟨v0, v1, v2, v3⟩ := hc k x hx
  have hkn : (k : Int) < (n : Int) := by have := (List.getElem?_eq_some_iff.1 hx).1; omega
  have C2 : ∀ W, Below w.heap.size w W → Calls Tryz.prog 188 #[.slice (some ⟨b, o, none⟩) n cap, .int .i64 y, .func (.func 179) #[] #[]] W fun e w' => e = .returned (.int .i64 (k : Int)) ∧ Gr W w' := fun W hW => by
    have := C1 W hW
    rwa [show ((k + 1 : Nat) : Int) - 1 = (k : Int) from by omega] at this
  have HB := Lib.hid hb
  clear C1 hc hup hk hx hb
  obtain ⟨⟨lo, hh, wear, ths⟩, q, cp⟩ := x
  simp only [SV.v, Spl.v] at *
  go_enter Tryz.func137, Tryz.ntmps137
  go_wp2_with fail
  obtain ⟨W0, hW0⟩ : ∃ W0, (w).alloc (.cells #[.int .i64 0, .int .i64 0, .int .i64 0, .slice none 0 0] 111) = W0 := ⟨_, rfl⟩
  have S0 : St w W0 [(w.heap.size, 0, .int .i64 0), (w.heap.size, 1, .int .i64 0), (w.heap.size, 2, .int .i64 0), (w.heap.size, 3, .slice none 0 0)] := by rw [← hW0]; exact ((St.nil w)).box #[.int .i64 0, .int .i64 0, .int .i64 0, .slice none 0 0] 111 (w.heap.size) (by simp)
  rw [hW0]
  clear hW0
  obtain ⟨C, hC0, HC, LC, BC, hne⟩ := cls S0
  haveI := hne
  obtain ⟨c0, rfl⟩ : ∃ n : Wd C, W0 = n.w := ⟨⟨_, hC0⟩, rfl⟩
  have fC0 : ∀ n : Wd C, n.w.cell? ⟨w.heap.size, 0, none⟩ = some (.int .i64 0) := fun n => (LC.out n).1.2.1
  have zC0 : ∀ n : Wd C, n.w.frozen? ⟨w.heap.size, 0, none⟩ = false := fun n => (LC.out n).1.2.2
  have fC1 : ∀ n : Wd C, n.w.cell? ⟨w.heap.size, 1, none⟩ = some (.int .i64 0) := fun n => (LC.out n).2.1.2.1
  have zC1 : ∀ n : Wd C, n.w.frozen? ⟨w.heap.size, 1, none⟩ = false := fun n => (LC.out n).2.1.2.2
  have fC2 : ∀ n : Wd C, n.w.cell? ⟨w.heap.size, 2, none⟩ = some (.int .i64 0) := fun n => (LC.out n).2.2.1.2.1
  have zC2 : ∀ n : Wd C, n.w.frozen? ⟨w.heap.size, 2, none⟩ = false := fun n => (LC.out n).2.2.1.2.2
  have fC3 : ∀ n : Wd C, n.w.cell? ⟨w.heap.size, 3, none⟩ = some (.slice none 0 0) := fun n => (LC.out n).2.2.2.1.2.1
  have zC3 : ∀ n : Wd C, n.w.frozen? ⟨w.heap.size, 3, none⟩ = false := fun n => (LC.out n).2.2.2.1.2.2
  clear S0 hC0
  refine (C2 _ (BC.out _)).mono ?_
  rintro e w1 ⟨rfl, hg⟩
  obtain ⟨m, rfl⟩ : ∃ m : Wd C, w1 = m.w := ⟨⟨_, HC.out _ _ (Wd.h _) hg.below⟩, rfl⟩
  have u0 := ((BC.out m).cell (p := ⟨b, o + k * 4, none⟩) HB.out).trans v0
  have u1 := ((BC.out m).cell (p := ⟨b, o + k * 4 + 1, none⟩) HB.out).trans v1
  have u2 := ((BC.out m).cell (p := ⟨b, o + k * 4 + 2, none⟩) HB.out).trans v2
  have u3 := ((BC.out m).cell (p := ⟨b, o + k * 4 + 3, none⟩) HB.out).trans v3
  clear hg C2 v0 v1 v2 v3
  go_wp2_with fail
  refine bodyPost_ret (v := .agg #[.int .i64 lo, .int .i64 hh, .int .i64 wear, .slice q ths.length cp]) (by simp [results, Tryz.results137, go_sem, fC0, fC1, fC2, fC3]) rfl ⟨rfl, ?_⟩
  exact set4 (BC.out m) (Nat.le_refl _) _ _ _ _
end Go.Proofs.YtcejmfgbfdhflaaGreat
