import Derived.Test.YtcejmfgbfdhflaaGreatEq
import Derived.Test.YtcejmfgbfdhflaaGreatEa
import Derived.Test.YtcejmfgbfdhflaaGreatEb
import Derived.Test.YtcejmfgbfdhflaaGreatEn
import Derived.Test.YtcejmfgbfdhflaaGreatQd
import Derived.Test.YtcejmfgbfdhflaaGreatQe
import Derived.WalkKit
import Derived.LoopTactic
import Derived.WalkSpells
import Derived.WalkLawsBesides
import Derived.Lib.Hide
import Derived.BigQuiet
import Derived.IntWalk
import Derived.Deep.DeepMust
import Derived.WalkSmall
import Derived.StillTailTactics
import Derived.Deep.RegionLaw
import Derived.Deep.RegionHeld3
import Derived.Deep.QuietTactic
namespace Go.Proofs.YtcejmfgbfdhflaaGreat
open Go.RowKit Go.Shelf Go.BigFrame Go.Sort
attribute [local go_sem] World.cell?_alloc_some
theorem Z2.newk {V W : World} {g k : Nat} (hk : W.heap.size = k) (h : V.heap.size ≤ k) (hg : k ≠ g) : Z2 V (W.alloc (.cells #[.int .i64 0, .int .i64 0] 30)) k g := by subst hk; exact Z2.new h hg
theorem om_lo {W : World} {B g n c : Nat} {l : List Ms} (h : OM W B (.slice (some ⟨g, 0, none⟩) n c) l) : B ≤ g := ownBlock_lo h rfl
theorem om_lt {W : World} {B g n c : Nat} {l : List Ms} (h : OM W B (.slice (some ⟨g, 0, none⟩) n c) l) : g < W.heap.size := (World.ownsRow.lt h g rfl).2
theorem om_ne {W : World} {B g n c : Nat} {l : List Ms} (h : OM W B (.slice (some ⟨g, 0, none⟩) n c) l) : W.heap.size ≠ g := by have := om_lt h; omega
set_option maxRecDepth 100000 in
set_option maxHeartbeats 12800000 in
theorem chainageAdds_law (x : WA) (more : Int) (q q' : Option Addr) (cap cap' : Nat) (la lb : List Ms) (w : World) (n1 : x.cs.length ≤ 140737488355327) (n2 : x.ps.length ≤ 140737488355327) (n3 : x.rs.length ≤ 140737488355327) (h : fewB x = true → x.At w) (hmr : 0 ≤ more ∧ more ≤ 255) (hl : la.length ≤ 140737488355327) (hl' : lb.length ≤ 140737488355327) (hm : MssAt w q la) (hm' : MssAt w q' lb) :
    Calls Tryz.prog 18 #[x.v, .slice q la.length cap, .slice q' lb.length cap', .int .u8 more] w fun e w' => e = .returned (.bool true) ∧ Below w.heap.size w w' := by
  have K1 := fun W => few_any x W n1 n2 n3
  have KS9 := fun W => sanity_any W
  have KT : fewB x = true → ∀ (q : Option Addr) (cap : Nat) (l : List Ms), l.length ≤ 140737488355327 → ∀ W, Below w.heap.size w W → MssAt W q l → Calls Tryz.prog 51 #[x.v, .slice q l.length cap] W fun e w' => e = .returned (.tuple #[spv (ttLo x l) (ttHi x l), .int .i64 (ttE x l)]) ∧ Below W.heap.size W w' := fun e q cap l hl W hb hm => Total_any x q cap l W ((h e).keep hb) hl hm
  have KD : fewB x = true → ∀ m0 W, Below w.heap.size w W → _ := fun e m0 W hb => Distance_any x m0 W ((h e).keep hb)
  have HMA := Lib.hid hm
  have HMB := Lib.hid hm'
  obtain ⟨z, hz⟩ : ∃ z, fewB x = z := ⟨_, rfl⟩
  have HADD : Hid (la.length ≤ 20 → lb.length ≤ 20 → (ttE x (la ++ lb) = 0 ↔ ttE x la = 0 ∧ ttE x lb = 0) ∧ (ttE x (la ++ lb) = 0 → ttLo x (la ++ lb) = ttLo x la + ttLo x lb ∧ ttHi x (la ++ lb) = ttHi x la + ttHi x lb)) := fun a b => tt_adds a b
  have HBD : Hid (∀ l : List Ms, l.length ≤ 100 → (0 ≤ ttLo x l ∧ ttLo x l ≤ 1220000000) ∧ 0 ≤ ttHi x l ∧ ttHi x l ≤ 1220000000) := fun l hl => by
    have := sm_bd x l
    unfold ttLo ttHi
    split <;> omega
  have HMORE : Hid (∀ (m : Ms) (d : Int), dsE x m = 0 → 0 ≤ d → m.slack + d ≤ 100000 → dsE x { m with slack := m.slack + d } = 0 ∧ dsLo x { m with slack := m.slack + d } ≤ dsLo x m ∧ dsHi x m ≤ dsHi x { m with slack := m.slack + d }) := fun m d a b c => ds_more a b c
  have HSL : Hid (∀ m : Ms, dsE x m = 0 → 0 ≤ m.slack ∧ m.slack ≤ 100000) := fun m a => (okMs_bd (dsE_zero a).2.1).2.2
  simp only [hz] at K1
  rw [hz] at KT KD
  obtain ⟨FL, hFL⟩ : ∃ f : List Ms → Int, ttLo x = f := ⟨_, rfl⟩
  obtain ⟨FH, hFH⟩ : ∃ f : List Ms → Int, ttHi x = f := ⟨_, rfl⟩
  obtain ⟨FE, hFE⟩ : ∃ f : List Ms → Int, ttE x = f := ⟨_, rfl⟩
  obtain ⟨dl, hdl⟩ : ∃ f : Ms → Int, dsLo x = f := ⟨_, rfl⟩
  obtain ⟨dh, hdh⟩ : ∃ f : Ms → Int, dsHi x = f := ⟨_, rfl⟩
  obtain ⟨de, hde⟩ : ∃ f : Ms → Int, dsE x = f := ⟨_, rfl⟩
  rw [hFL, hFH, hFE] at HADD
  rw [hFL, hFH] at HBD
  rw [hdl, hdh, hde] at HMORE
  rw [hde] at HSL
  simp only [hFL, hFH, hFE] at KT
  simp only [hdl, hdh, hde] at KD
  clear h hm hm' hz hFL hFH hFE hdl hdh hde n1
  obtain ⟨cs, ps, rs, q1, q2, q3, c1, c2, c3⟩ := x
  simp only [WA.v, Ms.v] at *
  have hw : wrap64 ((ps.length : Int) + (rs.length : Int)) = (ps.length : Int) + (rs.length : Int) := w64 (by omega)
  go_enter Tryz.func18, Tryz.ntmps18
  go_upto_region 1 with fail
  obtain ⟨W0, hW0⟩ : ∃ W0, (w).alloc (.cells #[.slice q1 cs.length c1, .slice q2 ps.length c2, .slice q3 rs.length c3] 26) = W0 := ⟨_, rfl⟩
  have S0 : St w W0 [(w.heap.size, 0, .slice q1 cs.length c1), (w.heap.size, 1, .slice q2 ps.length c2), (w.heap.size, 2, .slice q3 rs.length c3)] := by rw [← hW0]; exact ((St.nil w)).box #[.slice q1 cs.length c1, .slice q2 ps.length c2, .slice q3 rs.length c3] 26 (w.heap.size) (by simp)
  rw [hW0]
  clear hW0
  obtain ⟨C, hC0, HC, LC, BC, hne⟩ := cls S0
  haveI := hne
  obtain ⟨c0, rfl⟩ : ∃ n : Wd C, W0 = n.w := ⟨⟨_, hC0⟩, rfl⟩
  have fC0 : ∀ n : Wd C, n.w.cell? ⟨w.heap.size, 0, none⟩ = some (.slice q1 cs.length c1) := fun n => (LC.out n).1.2.1
  have fC1 : ∀ n : Wd C, n.w.cell? ⟨w.heap.size, 1, none⟩ = some (.slice q2 ps.length c2) := fun n => (LC.out n).2.1.2.1
  have fC2 : ∀ n : Wd C, n.w.cell? ⟨w.heap.size, 2, none⟩ = some (.slice q3 rs.length c3) := fun n => (LC.out n).2.2.1.2.1
  clear S0 hC0
  have D1 := cin HC K1
  have DS := cin HC KS9
  clear K1
  cases z
  · go_wp2_with (first | first | (go_at_call 19; with_reducible refine (D1 _).out.mono ?_; rintro e w' ⟨rfl, n, rfl⟩) | (go_at_call 20; with_reducible refine (DS _).out.mono ?_; rintro e w' ⟨rfl, n, rfl⟩))
    go_ret
    exact ⟨rfl, BC.out _⟩
  replace KT := KT (by first | rfl | trivial)
  replace KD := KD (by first | rfl | trivial)
  by_cases h30 : 30 < ps.length + rs.length
  · have h30' : decide ((30 : Int) < (ps.length : Int) + (rs.length : Int)) = true := by simp; omega
    clear h30 KT KD
    go_wp2_with (first | first | (go_at_call 19; with_reducible refine (D1 _).out.mono ?_; rintro e w' ⟨rfl, n, rfl⟩) | (go_at_call 20; with_reducible refine (DS _).out.mono ?_; rintro e w' ⟨rfl, n, rfl⟩))
    go_ret
    exact ⟨rfl, BC.out _⟩
  have h30' : decide ((30 : Int) < (ps.length : Int) + (rs.length : Int)) = false := by simp; omega
  by_cases ha : 20 < la.length
  · have ha' : decide ((20 : Int) < (la.length : Int)) = true := by simp; omega
    clear h30 KT KD ha
    go_wp2_with (first | first | (go_at_call 19; with_reducible refine (D1 _).out.mono ?_; rintro e w' ⟨rfl, n, rfl⟩) | (go_at_call 20; with_reducible refine (DS _).out.mono ?_; rintro e w' ⟨rfl, n, rfl⟩))
    go_ret
    exact ⟨rfl, BC.out _⟩
  have ha' : decide ((20 : Int) < (la.length : Int)) = false := by simp; omega
  by_cases hb : 20 < lb.length
  · have hb' : decide ((20 : Int) < (lb.length : Int)) = true := by simp; omega
    clear h30 KT KD ha hb
    go_wp2_with (first | first | (go_at_call 19; with_reducible refine (D1 _).out.mono ?_; rintro e w' ⟨rfl, n, rfl⟩) | (go_at_call 20; with_reducible refine (DS _).out.mono ?_; rintro e w' ⟨rfl, n, rfl⟩))
    go_ret
    exact ⟨rfl, BC.out _⟩
  have hb' : decide ((20 : Int) < (lb.length : Int)) = false := by simp; omega
  have HADD := Lib.hid (HADD.out (by omega) (by omega))
  have HBA := HBD.out la (by omega)
  have HBB := HBD.out lb (by omega)
  have HLA : Hid (([] : List Ms).length + la.length ≤ 1000) := by unfold Hid; simp; omega
  have HLB : Hid (la.length + lb.length ≤ 1000) := by unfold Hid; omega
  have HLL := Lib.hid (And.intro (by omega : la.length ≤ 20) (by omega : lb.length ≤ 20))
  have KTA := fun W (hb : Below w.heap.size w W) => KT q cap la hl W hb (HMA.out.keep hb)
  have KTB := fun W (hb : Below w.heap.size w W) => KT q' cap' lb hl' W hb (HMB.out.keep hb)
  have KTC := Lib.hid fun (q : Option Addr) (cap : Nat) W (hb : Below w.heap.size w W) hm => KT q cap (la ++ lb) (by rw [List.length_append]; omega) W hb hm
  obtain ⟨al, hal⟩ : ∃ z, FL la = z := ⟨_, rfl⟩
  obtain ⟨ah, hah⟩ : ∃ z, FH la = z := ⟨_, rfl⟩
  obtain ⟨ae, hae⟩ : ∃ z, FE la = z := ⟨_, rfl⟩
  obtain ⟨bl, hbl⟩ : ∃ z, FL lb = z := ⟨_, rfl⟩
  obtain ⟨bh, hbh⟩ : ∃ z, FH lb = z := ⟨_, rfl⟩
  obtain ⟨be, hbe⟩ : ∃ z, FE lb = z := ⟨_, rfl⟩
  obtain ⟨tl, htl⟩ : ∃ z, FL (la ++ lb) = z := ⟨_, rfl⟩
  obtain ⟨th, hth⟩ : ∃ z, FH (la ++ lb) = z := ⟨_, rfl⟩
  obtain ⟨te, hte⟩ : ∃ z, FE (la ++ lb) = z := ⟨_, rfl⟩
  rw [hal, hah, hae, hbl, hbh, hbe, htl, hth, hte] at HADD
  rw [hal, hah] at HBA
  rw [hbl, hbh] at HBB
  simp only [hal, hah, hae] at KTA
  simp only [hbl, hbh, hbe] at KTB
  simp only [htl, hth, hte] at KTC
  have hs1 : wrap64 (al + bl) = al + bl := w64 (by omega)
  have hs2 : wrap64 (ah + bh) = ah + bh := w64 (by omega)
  obtain ⟨N, hN⟩ : ∃ N, (la ++ lb).length = N := ⟨_, rfl⟩
  have HN := Lib.hid hN
  rw [hN] at KTC
  obtain ⟨LL, hLL⟩ : ∃ L, la ++ lb = L := ⟨_, rfl⟩
  have HLC := Lib.hid hLL
  rw [hLL] at KTC HN
  clear hal hah hae hbl hbh hbe htl hth hte h30 ha hb HBA HBB KT HBD hN hLL hl hl'
  have D2 := cinL HC BC KTA
  have D3 := cinL HC BC KTB
  clear KTA
  go_upto_region 4 with (first | (go_at_call 19; with_reducible refine (D1 _).out.mono ?_; rintro e w' ⟨rfl, n, rfl⟩) | (go_at_call 51; with_reducible refine (D2 _).out.mono ?_; rintro e w' ⟨rfl, n, rfl⟩))
  obtain ⟨W0, hW0⟩ : ∃ W0, (n.w).alloc (.cells #[.int .i64 (al), .int .i64 (ah)] 30) = W0 := ⟨_, rfl⟩
  have S0 : St w W0 [(n.w.heap.size, 0, .int .i64 (al)), (n.w.heap.size, 1, .int .i64 (ah)), (w.heap.size, 0, .slice q1 cs.length c1), (w.heap.size, 1, .slice q2 ps.length c2), (w.heap.size, 2, .slice q3 rs.length c3)] := by rw [← hW0]; exact ((⟨BC.out n, LC.out n⟩ : St w n.w _)).box #[.int .i64 (al), .int .i64 (ah)] 30 (n.w.heap.size) (by simp)
  rw [hW0]
  clear hW0
  obtain ⟨kD, hkk⟩ : ∃ k, n.w.heap.size = k := ⟨_, rfl⟩
  have gkD : w.heap.size ≤ kD := by rw [← hkk]; exact (BC.out n).size
  rw [hkk] at S0 ⊢
  clear hkk
  obtain ⟨D, hC0, HD, LD, BD, hne⟩ := cls S0
  haveI := hne
  obtain ⟨d0, rfl⟩ : ∃ n : Wd D, W0 = n.w := ⟨⟨_, hC0⟩, rfl⟩
  have fD0 : ∀ n : Wd D, n.w.cell? ⟨kD, 0, none⟩ = some (.int .i64 (al)) := fun n => (LD.out n).1.2.1
  have fD1 : ∀ n : Wd D, n.w.cell? ⟨kD, 1, none⟩ = some (.int .i64 (ah)) := fun n => (LD.out n).2.1.2.1
  have fD2 : ∀ n : Wd D, n.w.cell? ⟨w.heap.size, 0, none⟩ = some (.slice q1 cs.length c1) := fun n => (LD.out n).2.2.1.2.1
  have fD3 : ∀ n : Wd D, n.w.cell? ⟨w.heap.size, 1, none⟩ = some (.slice q2 ps.length c2) := fun n => (LD.out n).2.2.2.1.2.1
  have fD4 : ∀ n : Wd D, n.w.cell? ⟨w.heap.size, 2, none⟩ = some (.slice q3 rs.length c3) := fun n => (LD.out n).2.2.2.2.1.2.1
  clear S0 hC0
  clear D1 D2 DS D3
  have D4 := cinL HD BD KTB
  go_upto_region 5 with (first | (go_at_call 51; with_reducible refine (D4 _).out.mono ?_; rintro e w' ⟨rfl, n, rfl⟩))
  obtain ⟨W0, hW0⟩ : ∃ W0, (n.w).alloc (.cells #[.int .i64 (bl), .int .i64 (bh)] 30) = W0 := ⟨_, rfl⟩
  have S0 : St w W0 [(n.w.heap.size, 0, .int .i64 (bl)), (n.w.heap.size, 1, .int .i64 (bh)), (kD, 0, .int .i64 (al)), (kD, 1, .int .i64 (ah)), (w.heap.size, 0, .slice q1 cs.length c1), (w.heap.size, 1, .slice q2 ps.length c2), (w.heap.size, 2, .slice q3 rs.length c3)] := by rw [← hW0]; exact ((⟨BD.out n, LD.out n⟩ : St w n.w _)).box #[.int .i64 (bl), .int .i64 (bh)] 30 (n.w.heap.size) (by simp)
  rw [hW0]
  clear hW0
  obtain ⟨kG, hkk⟩ : ∃ k, n.w.heap.size = k := ⟨_, rfl⟩
  have gkG : w.heap.size ≤ kG := by rw [← hkk]; exact (BD.out n).size
  rw [hkk] at S0 ⊢
  clear hkk
  obtain ⟨G, hC0, HG, LG, BG, hne⟩ := cls S0
  haveI := hne
  obtain ⟨g0, rfl⟩ : ∃ n : Wd G, W0 = n.w := ⟨⟨_, hC0⟩, rfl⟩
  have fG0 : ∀ n : Wd G, n.w.cell? ⟨kG, 0, none⟩ = some (.int .i64 (bl)) := fun n => (LG.out n).1.2.1
  have fG1 : ∀ n : Wd G, n.w.cell? ⟨kG, 1, none⟩ = some (.int .i64 (bh)) := fun n => (LG.out n).2.1.2.1
  have fG2 : ∀ n : Wd G, n.w.cell? ⟨kD, 0, none⟩ = some (.int .i64 (al)) := fun n => (LG.out n).2.2.1.2.1
  have fG3 : ∀ n : Wd G, n.w.cell? ⟨kD, 1, none⟩ = some (.int .i64 (ah)) := fun n => (LG.out n).2.2.2.1.2.1
  have fG4 : ∀ n : Wd G, n.w.cell? ⟨w.heap.size, 0, none⟩ = some (.slice q1 cs.length c1) := fun n => (LG.out n).2.2.2.2.1.2.1
  have fG5 : ∀ n : Wd G, n.w.cell? ⟨w.heap.size, 1, none⟩ = some (.slice q2 ps.length c2) := fun n => (LG.out n).2.2.2.2.2.1.2.1
  have fG6 : ∀ n : Wd G, n.w.cell? ⟨w.heap.size, 2, none⟩ = some (.slice q3 rs.length c3) := fun n => (LG.out n).2.2.2.2.2.2.1.2.1
  clear S0 hC0
  clear D4 KTB
  have hVB : w.heap.size < g0.w.heap.size := (LG.out g0).2.2.2.2.1.1
  have HBG0 := Lib.hid (BG.out g0)
  have HCS := Lib.hid (And.intro (fG4 g0) (And.intro (fG5 g0) (fG6 g0)))
  have hLS : ∀ x ∈ ([(w.heap.size, 0, .slice q1 cs.length c1), (w.heap.size, 1, .slice q2 ps.length c2), (w.heap.size, 2, .slice q3 rs.length c3)] : List (Nat × Nat × Value)), x.1 < g0.w.heap.size := by simp only [List.forall_mem_cons, List.not_mem_nil, false_implies, implies_true, and_true]; omega
  have S0 : Hid ((g0.w.drew.cell? ⟨w.heap.size, 0, none⟩ = some (.slice q1 cs.length c1) ∧ g0.w.drew.cell? ⟨w.heap.size, 1, none⟩ = some (.slice q2 ps.length c2) ∧ g0.w.drew.cell? ⟨w.heap.size, 2, none⟩ = some (.slice q3 rs.length c3)) ∧ Below g0.w.heap.size g0.w g0.w.drew) := hStart (L := [(w.heap.size, 0, .slice q1 cs.length c1), (w.heap.size, 1, .slice q2 ps.length c2), (w.heap.size, 2, .slice q3 rs.length c3)]) hLS HCS.out
  have KC : ∀ W W', Hid (Below W.heap.size W W' → ((W.cell? ⟨w.heap.size, 0, none⟩ = some (.slice q1 cs.length c1) ∧ W.cell? ⟨w.heap.size, 1, none⟩ = some (.slice q2 ps.length c2) ∧ W.cell? ⟨w.heap.size, 2, none⟩ = some (.slice q3 rs.length c3)) ∧ Below g0.w.heap.size g0.w W) → ((W'.cell? ⟨w.heap.size, 0, none⟩ = some (.slice q1 cs.length c1) ∧ W'.cell? ⟨w.heap.size, 1, none⟩ = some (.slice q2 ps.length c2) ∧ W'.cell? ⟨w.heap.size, 2, none⟩ = some (.slice q3 rs.length c3)) ∧ Below g0.w.heap.size g0.w W')) := fun W W' h1 h2 => hCall (L := [(w.heap.size, 0, .slice q1 cs.length c1), (w.heap.size, 1, .slice q2 ps.length c2), (w.heap.size, 2, .slice q3 rs.length c3)]) hLS h1 h2
  have KS : ∀ (W : World) (kk : Nat) (v0 v1 : Value), Hid (g0.w.heap.size ≤ kk → ((W.cell? ⟨w.heap.size, 0, none⟩ = some (.slice q1 cs.length c1) ∧ W.cell? ⟨w.heap.size, 1, none⟩ = some (.slice q2 ps.length c2) ∧ W.cell? ⟨w.heap.size, 2, none⟩ = some (.slice q3 rs.length c3)) ∧ Below g0.w.heap.size g0.w W) → ((((W.setCell ⟨kk, 0, none⟩ v0).setCell ⟨kk, 1, none⟩ v1).cell? ⟨w.heap.size, 0, none⟩ = some (.slice q1 cs.length c1) ∧ ((W.setCell ⟨kk, 0, none⟩ v0).setCell ⟨kk, 1, none⟩ v1).cell? ⟨w.heap.size, 1, none⟩ = some (.slice q2 ps.length c2) ∧ ((W.setCell ⟨kk, 0, none⟩ v0).setCell ⟨kk, 1, none⟩ v1).cell? ⟨w.heap.size, 2, none⟩ = some (.slice q3 rs.length c3)) ∧ Below g0.w.heap.size g0.w ((W.setCell ⟨kk, 0, none⟩ v0).setCell ⟨kk, 1, none⟩ v1))) := fun W kk v0 v1 h h2 => hSet2 (L := [(w.heap.size, 0, .slice q1 cs.length c1), (w.heap.size, 1, .slice q2 ps.length c2), (w.heap.size, 2, .slice q3 rs.length c3)]) hLS h h2
  have KA : ∀ (W : World) (ob1 ob2 : Obj), Hid (g0.w.heap.size ≤ W.heap.size → (((W.alloc ob1).cell? ⟨w.heap.size, 0, none⟩ = some (.slice q1 cs.length c1) ∧ (W.alloc ob1).cell? ⟨w.heap.size, 1, none⟩ = some (.slice q2 ps.length c2) ∧ (W.alloc ob1).cell? ⟨w.heap.size, 2, none⟩ = some (.slice q3 rs.length c3)) ∧ Below g0.w.heap.size g0.w (W.alloc ob1)) → (((W.alloc ob2).cell? ⟨w.heap.size, 0, none⟩ = some (.slice q1 cs.length c1) ∧ (W.alloc ob2).cell? ⟨w.heap.size, 1, none⟩ = some (.slice q2 ps.length c2) ∧ (W.alloc ob2).cell? ⟨w.heap.size, 2, none⟩ = some (.slice q3 rs.length c3)) ∧ Below g0.w.heap.size g0.w (W.alloc ob2))) := fun W ob1 ob2 h h2 => hAl2 (L := [(w.heap.size, 0, .slice q1 cs.length c1), (w.heap.size, 1, .slice q2 ps.length c2), (w.heap.size, 2, .slice q3 rs.length c3)]) hLS h h2
  have KG : ∀ (W W' : World) (g : Nat), Hid (g0.w.heap.size ≤ g → W.grownBy W' (some g) → ((W.cell? ⟨w.heap.size, 0, none⟩ = some (.slice q1 cs.length c1) ∧ W.cell? ⟨w.heap.size, 1, none⟩ = some (.slice q2 ps.length c2) ∧ W.cell? ⟨w.heap.size, 2, none⟩ = some (.slice q3 rs.length c3)) ∧ Below g0.w.heap.size g0.w W) → ((W'.cell? ⟨w.heap.size, 0, none⟩ = some (.slice q1 cs.length c1) ∧ W'.cell? ⟨w.heap.size, 1, none⟩ = some (.slice q2 ps.length c2) ∧ W'.cell? ⟨w.heap.size, 2, none⟩ = some (.slice q3 rs.length c3)) ∧ Below g0.w.heap.size g0.w W')) := fun W W' g h1 h2 h3 => hGrow (L := [(w.heap.size, 0, .slice q1 cs.length c1), (w.heap.size, 1, .slice q2 ps.length c2), (w.heap.size, 2, .slice q3 rs.length c3)]) hLS h1 h2 h3
  have KZ : ∀ W W', Hid (Below W.heap.size W W' → ((W.cell? ⟨w.heap.size, 0, none⟩ = some (.slice q1 cs.length c1) ∧ W.cell? ⟨w.heap.size, 1, none⟩ = some (.slice q2 ps.length c2) ∧ W.cell? ⟨w.heap.size, 2, none⟩ = some (.slice q3 rs.length c3)) ∧ Below g0.w.heap.size g0.w W) → g0.w.heap.size ≤ W'.heap.size) := fun W W' h1 h2 => Nat.le_trans h2.2.size h1.size
  have KY : ∀ W, Hid (((W.cell? ⟨w.heap.size, 0, none⟩ = some (.slice q1 cs.length c1) ∧ W.cell? ⟨w.heap.size, 1, none⟩ = some (.slice q2 ps.length c2) ∧ W.cell? ⟨w.heap.size, 2, none⟩ = some (.slice q3 rs.length c3)) ∧ Below g0.w.heap.size g0.w W) → g0.w.heap.size ≤ W.heap.size) := fun W h2 => h2.2.size
  have KMA : ∀ W, Hid (((W.cell? ⟨w.heap.size, 0, none⟩ = some (.slice q1 cs.length c1) ∧ W.cell? ⟨w.heap.size, 1, none⟩ = some (.slice q2 ps.length c2) ∧ W.cell? ⟨w.heap.size, 2, none⟩ = some (.slice q3 rs.length c3)) ∧ Below g0.w.heap.size g0.w W) → MssAt W q la) := fun W h2 => HMA.out.keep (HBG0.out.trans (h2.2.mono HBG0.out.size))
  have KMB : ∀ W, Hid (((W.cell? ⟨w.heap.size, 0, none⟩ = some (.slice q1 cs.length c1) ∧ W.cell? ⟨w.heap.size, 1, none⟩ = some (.slice q2 ps.length c2) ∧ W.cell? ⟨w.heap.size, 2, none⟩ = some (.slice q3 rs.length c3)) ∧ Below g0.w.heap.size g0.w W) → MssAt W q' lb) := fun W h2 => HMB.out.keep (HBG0.out.trans (h2.2.mono HBG0.out.size))
  have E2 : ∀ (W : World) (g c : Nat), Hid (((W.cell? ⟨w.heap.size, 0, none⟩ = some (.slice q1 cs.length c1) ∧ W.cell? ⟨w.heap.size, 1, none⟩ = some (.slice q2 ps.length c2) ∧ W.cell? ⟨w.heap.size, 2, none⟩ = some (.slice q3 rs.length c3)) ∧ Below g0.w.heap.size g0.w W) → OM W g0.w.heap.size (.slice (some ⟨g, 0, none⟩) N c) LL → Calls Tryz.prog 51 #[.agg #[.slice q1 cs.length c1, .slice q2 ps.length c2, .slice q3 rs.length c3], .slice (some ⟨g, 0, none⟩) N c] W fun e w' => e = .returned (.tuple #[spv tl th, .int .i64 te]) ∧ Below W.heap.size W w') := fun W g c h hO => by
    obtain ⟨q9, c9, e9, hm9⟩ := hO.mss
    injection e9 with e9 e10 e11
    subst e9 e11
    exact KTC.out _ _ W (HBG0.out.trans (h.2.mono HBG0.out.size)) hm9
  have L1 : ∀ W : World, Hid (g0.w.heap.size ≤ W.heap.size → OM (W.alloc (.cells #[] 73)) g0.w.heap.size (.slice (some ⟨W.heap.size, 0, none⟩) 0 0) []) := fun W h => lit_om W _ h
  have L2 : Hid (OM ((g0.w.alloc (.cells #[.int .i64 0, .int .i64 0] 30)).alloc (.cells #[] 73)) g0.w.heap.size (.slice (some ⟨g0.w.heap.size + 1, 0, none⟩) 0 0) []) := by
    have := lit_om (g0.w.alloc (.cells #[.int .i64 0, .int .i64 0] 30)) g0.w.heap.size (by simp)
    rwa [World.size_alloc] at this
  clear hLS hVB HCS KTC
  go_cut [13, 14] from 57 to 66 (fun v ev wx => ∃ k : Nat, v = .pointer (some ⟨k, 0, none⟩) ∧ ev = .int .i64 te ∧ Made2 g0.w wx k (.int .i64 tl) (.int .i64 th))
  case first =>
    go_region_held3 (fun W => (W.cell? ⟨w.heap.size, 0, none⟩ = some (.slice q1 cs.length c1) ∧ W.cell? ⟨w.heap.size, 1, none⟩ = some (.slice q2 ps.length c2) ∧ W.cell? ⟨w.heap.size, 2, none⟩ = some (.slice q3 rs.length c3)) ∧ Below g0.w.heap.size g0.w W)
      (first | (with_reducible exact S0.out) | (with_reducible exact (KC _ _).out (by assumption) (by assumption)) | (with_reducible exact (KC _ _).out (below_al _ _) (by assumption)) | (exact (KG _ _ _).out hge1 hg2 (by assumption)) | (exact (KG _ _ _).out (Nat.le_refl _) hg1 (by assumption)) | (exact (KG _ _ _).out (Nat.le_succ _) hg1 (by assumption)) | (with_reducible exact (KA _ _ _).out (by assumption) (by assumption)) | (with_reducible exact (KS _ _ _ _).out (by first | assumption | omega | (simp; omega) | simp) (by assumption)))
      (first
        | (refine step_app rfl (.tmp 59) (.tmp 60) rfl (l := []) (m := la) (l' := la) (N := la.length) (B := g0.w.heap.size) rfl rfl (by first | exact ((L1 g0.w).out (Nat.le_refl _)).drew | exact (((L1 g0.w).out (Nat.le_refl _)).alloc _).drew | exact L2.out.drew) ((KY _).out (by assumption)) ((KMA _).out (by assumption)) HLA.out rfl rfl ?_; intro g1 cc1 w1 hO1 hg1 ha1; have hge1 := om_lo hO1; have hlt1 := om_lt hO1; have hy1 := om_ne hO1; (first | (have hz1 := ((Z2.newk (V := g0.w) (W := g0.w.alloc (.cells #[] 73)) (g := g0.w.heap.size) (k := g0.w.heap.size + 1) (by simp) (by simp) (by simp)).below (below_dr _)).app hg1 ha1) | (have hz1 := (((Z2.new (V := g0.w) (W := g0.w) (g := g0.w.heap.size + 1) (Nat.le_refl _) (by simp)).al (.cells #[] 73) (by simp)).below (below_dr _)).app hg1 ha1) | skip))
        | (refine step_app rfl (.tmp 61) (.tmp 62) rfl (l := la) (m := lb) (l' := LL) (N := N) (B := g0.w.heap.size) rfl rfl (by first | exact hO1 | exact hO1.alloc _) ((KY _).out (by assumption)) ((KMB _).out (by assumption)) HLB.out HLC.out HN.out ?_; intro g2 cc2 w2 hO2 hg2 ha2; have hge2 := om_lo hO2; have hlt2 := om_lt hO2; have hy2 := om_ne hO2; (first | (have hz2 := hz1.app hg2 ha2) | (have hz2 := (Z2.new (V := g0.w) (W := w1) (g := g1) (Nat.le_trans hge1 (Nat.le_of_lt hlt1)) hy1).app hg2 ha2) | skip))
        | (go_at_call 51; refine ((E2 _ _ _).out (by assumption) (by first | exact hO2 | exact hO2.alloc _)).mono ?_; rintro e w' ⟨rfl, hb⟩; have hn := (KZ _ _).out hb (by assumption); (first | (have hz3 := hz2.below hb; obtain ⟨⟨y0, y1, y2⟩, ⟨-, y3, y4⟩, -⟩ := hz3.cs) | (have hz3 := (Z2.new (V := g0.w) (W := w2) (g := g2) (Nat.le_trans hge2 (Nat.le_of_lt hlt2)) hy2).below hb; obtain ⟨⟨y0, y1, y2⟩, ⟨-, y3, y4⟩, -⟩ := hz3.cs) | skip)))
    all_goals
      rename_i hHeld
      go_wp2_with fail
      go_meet
      first
        | exact ⟨_, rfl, rfl, made2_al (L := [(w.heap.size, 0, .slice q1 cs.length c1), (w.heap.size, 1, .slice q2 ps.length c2), (w.heap.size, 2, .slice q3 rs.length c3)]) hn hHeld⟩
        | exact ⟨_, rfl, rfl, made2_set (L := [(w.heap.size, 0, .slice q1 cs.length c1), (w.heap.size, 1, .slice q2 ps.length c2), (w.heap.size, 2, .slice q3 rs.length c3)]) hz3.ge hz3.cs.1.1 ⟨y1, y2⟩ ⟨y3, y4⟩ hHeld⟩
  case rest =>
  obtain ⟨kR, rfl, rfl, HM⟩ := hcut
  clear S0 KC KS KA KG KZ KY KMA KMB E2 L1 L2 HLA HLB HLC HN HMB
  have S3 : St w wc ((kR, 0, .int .i64 tl) :: (kR, 1, .int .i64 th) :: [(kG, 0, .int .i64 (bl)), (kG, 1, .int .i64 (bh)), (kD, 0, .int .i64 (al)), (kD, 1, .int .i64 (ah)), (w.heap.size, 0, .slice q1 cs.length c1), (w.heap.size, 1, .slice q2 ps.length c2), (w.heap.size, 2, .slice q3 rs.length c3)]) := St.made2 ⟨HBG0.out, LG.out g0⟩ HM
  clear HM HBG0
  obtain ⟨R, hC0, HR, LR, BR, hne⟩ := cls S3
  haveI := hne
  obtain ⟨r0, rfl⟩ : ∃ n : Wd R, wc = n.w := ⟨⟨_, hC0⟩, rfl⟩
  have fR0 : ∀ n : Wd R, n.w.cell? ⟨kR, 0, none⟩ = some (.int .i64 tl) := fun n => (LR.out n).1.2.1
  have fR1 : ∀ n : Wd R, n.w.cell? ⟨kR, 1, none⟩ = some (.int .i64 th) := fun n => (LR.out n).2.1.2.1
  have fR2 : ∀ n : Wd R, n.w.cell? ⟨kG, 0, none⟩ = some (.int .i64 (bl)) := fun n => (LR.out n).2.2.1.2.1
  have fR3 : ∀ n : Wd R, n.w.cell? ⟨kG, 1, none⟩ = some (.int .i64 (bh)) := fun n => (LR.out n).2.2.2.1.2.1
  have fR4 : ∀ n : Wd R, n.w.cell? ⟨kD, 0, none⟩ = some (.int .i64 (al)) := fun n => (LR.out n).2.2.2.2.1.2.1
  have fR5 : ∀ n : Wd R, n.w.cell? ⟨kD, 1, none⟩ = some (.int .i64 (ah)) := fun n => (LR.out n).2.2.2.2.2.1.2.1
  have fR6 : ∀ n : Wd R, n.w.cell? ⟨w.heap.size, 0, none⟩ = some (.slice q1 cs.length c1) := fun n => (LR.out n).2.2.2.2.2.2.1.2.1
  have fR7 : ∀ n : Wd R, n.w.cell? ⟨w.heap.size, 1, none⟩ = some (.slice q2 ps.length c2) := fun n => (LR.out n).2.2.2.2.2.2.2.1.2.1
  have fR8 : ∀ n : Wd R, n.w.cell? ⟨w.heap.size, 2, none⟩ = some (.slice q3 rs.length c3) := fun n => (LR.out n).2.2.2.2.2.2.2.2.1.2.1
  clear S3 hC0
  have HAB := HADD.out
  go_upto_region 6 with fail
  go_cut [94] from 67 to 93 (fun v wx => v = .bool false ∧ wx = r0.w)
  case first =>
    by_cases ht : te = 0
    · obtain ⟨rfl, rfl⟩ := HAB.1.1 ht
      obtain ⟨rfl, rfl⟩ := HAB.2 ht
      subst ht
      clear HADD HAB
      go_wp2_with fail
      go_meet
      exact ⟨rfl, rfl⟩
    · have ht' : (te == 0) = false := by simpa using ht
      by_cases hA0 : ae = 0
      · have hA1 : (ae == 0) = true := by simpa using hA0
        have hB0 : ¬ be = 0 := fun e => ht (HAB.1.2 ⟨hA0, e⟩)
        have hB1 : (be == 0) = false := by simpa using hB0
        clear ht hA0 hB0 HADD HAB
        go_wp2_with fail
        go_meet
        exact ⟨rfl, rfl⟩
      · have hA1 : (ae == 0) = false := by simpa using hA0
        clear ht hA0 HADD HAB
        go_wp2_with fail
        go_meet
        exact ⟨rfl, rfl⟩
  case rest =>
  obtain ⟨rfl, rfl⟩ := hcut
  clear HADD HAB hs1 hs2 hw
  go_wp2_with fail
  go_loopw [97] (fun i wr => ∃ (k : Nat), St w wr [(kR, 0, .int .i64 tl), (kR, 1, .int .i64 th), (kG, 0, .int .i64 (bl)), (kG, 1, .int .i64 (bh)), (kD, 0, .int .i64 (al)), (kD, 1, .int .i64 (ah)), (w.heap.size, 0, .slice q1 cs.length c1), (w.heap.size, 1, .slice q2 ps.length c2), (w.heap.size, 2, .slice q3 rs.length c3)] ∧ i = .int .i64 (k : Int) ∧ k ≤ la.length) (fun i wr => la.length - (intOf i).toNat)
  case atStart => exact ⟨0, ⟨BR.out r0, LR.out r0⟩, rfl, Nat.zero_le _⟩
  case round =>
    obtain ⟨k, hS, rfl, hk⟩ := hrel
    clear fR0 fR1 fR2 fR3 fR4 fR5 fR6 fR7 fR8 LR BR HR
    obtain ⟨T, hC0, HT, LT, BT, hne⟩ := cls hS
    haveI := hne
    obtain ⟨t0, rfl⟩ : ∃ n : Wd T, wr = n.w := ⟨⟨_, hC0⟩, rfl⟩
    have fT0 : ∀ n : Wd T, n.w.cell? ⟨kR, 0, none⟩ = some (.int .i64 tl) := fun n => (LT.out n).1.2.1
    have fT1 : ∀ n : Wd T, n.w.cell? ⟨kR, 1, none⟩ = some (.int .i64 th) := fun n => (LT.out n).2.1.2.1
    have fT2 : ∀ n : Wd T, n.w.cell? ⟨kG, 0, none⟩ = some (.int .i64 (bl)) := fun n => (LT.out n).2.2.1.2.1
    have fT3 : ∀ n : Wd T, n.w.cell? ⟨kG, 1, none⟩ = some (.int .i64 (bh)) := fun n => (LT.out n).2.2.2.1.2.1
    have fT4 : ∀ n : Wd T, n.w.cell? ⟨kD, 0, none⟩ = some (.int .i64 (al)) := fun n => (LT.out n).2.2.2.2.1.2.1
    have fT5 : ∀ n : Wd T, n.w.cell? ⟨kD, 1, none⟩ = some (.int .i64 (ah)) := fun n => (LT.out n).2.2.2.2.2.1.2.1
    have fT6 : ∀ n : Wd T, n.w.cell? ⟨w.heap.size, 0, none⟩ = some (.slice q1 cs.length c1) := fun n => (LT.out n).2.2.2.2.2.2.1.2.1
    have fT7 : ∀ n : Wd T, n.w.cell? ⟨w.heap.size, 1, none⟩ = some (.slice q2 ps.length c2) := fun n => (LT.out n).2.2.2.2.2.2.2.1.2.1
    have fT8 : ∀ n : Wd T, n.w.cell? ⟨w.heap.size, 2, none⟩ = some (.slice q3 rs.length c3) := fun n => (LT.out n).2.2.2.2.2.2.2.2.1.2.1
    clear hS hC0
    have KS := cin HT KS9
    by_cases hlt : k < la.length
    · rcases HMA.out with h0 | ⟨b, o, rfl, hb, hc⟩
      · exact absurd hlt (by simp [show la = [] from h0])
      obtain ⟨d1, d2, d3, d4, d5⟩ := hc k la[k] (List.getElem?_eq_getElem hlt)
      have b1 := ((BT.out t0).cell (p := ⟨b, o + k * 5, none⟩) hb).trans d1
      have b2 := ((BT.out t0).cell (p := ⟨b, o + k * 5 + 1, none⟩) hb).trans d2
      have b3 := ((BT.out t0).cell (p := ⟨b, o + k * 5 + 2, none⟩) hb).trans d3
      have b4 := ((BT.out t0).cell (p := ⟨b, o + k * 5 + 3, none⟩) hb).trans d4
      have b5 := ((BT.out t0).cell (p := ⟨b, o + k * 5 + 4, none⟩) hb).trans d5
      have hmo := HMORE.out la[k] more
      have hsl := HSL.out la[k]
      obtain ⟨m, hm⟩ : ∃ m, la[k] = m := ⟨_, rfl⟩
      simp only [show la[k] = m from hm] at b1 b2 b3 b4 b5 hmo hsl
      have KM1 := KD m
      have KM2 := KD { m with slack := m.slack + more }
      obtain ⟨p, hp⟩ : ∃ p, dl m = p := ⟨_, rfl⟩
      obtain ⟨p2, hp2⟩ : ∃ p, dh m = p := ⟨_, rfl⟩
      obtain ⟨g, hg⟩ : ∃ p, de m = p := ⟨_, rfl⟩
      obtain ⟨s, hs⟩ : ∃ p, dl { m with slack := m.slack + more } = p := ⟨_, rfl⟩
      obtain ⟨s2, hs2⟩ : ∃ p, dh { m with slack := m.slack + more } = p := ⟨_, rfl⟩
      obtain ⟨g2, hg2⟩ : ∃ p, de { m with slack := m.slack + more } = p := ⟨_, rfl⟩
      simp only [hp, hp2, hg] at KM1
      simp only [hs, hs2, hg2] at KM2
      rw [hp, hp2, hg, hs, hs2, hg2] at hmo
      rw [hg] at hsl
      obtain ⟨m1, m2, m3, m4, m5⟩ := m
      simp only at b1 b2 b3 b4 b5 KM1 KM2 hmo hsl
      have HMO := Lib.hid hmo
      have hk20 : la.length ≤ 20 := HLL.out.1
      have hlt' : (k : Int) < (la.length : Int) := by omega
      have HSL5 := Lib.hid hsl
      clear d1 d2 d3 d4 d5 hc hb hm hp hp2 hg hs hs2 hg2 hmo hsl
      go_upto_region 11 with fail
      obtain ⟨W0, hW0⟩ : ∃ W0, (t0.w).alloc (.cells #[.int .i64 (m1), .int .i64 (m2), .int .i64 (m3), .int .i64 (m4), .int .i64 (m5)] 73) = W0 := ⟨_, rfl⟩
      have S0 : St w W0 [(t0.w.heap.size, 0, .int .i64 (m1)), (t0.w.heap.size, 1, .int .i64 (m2)), (t0.w.heap.size, 2, .int .i64 (m3)), (t0.w.heap.size, 3, .int .i64 (m4)), (t0.w.heap.size, 4, .int .i64 (m5)), (kR, 0, .int .i64 tl), (kR, 1, .int .i64 th), (kG, 0, .int .i64 (bl)), (kG, 1, .int .i64 (bh)), (kD, 0, .int .i64 (al)), (kD, 1, .int .i64 (ah)), (w.heap.size, 0, .slice q1 cs.length c1), (w.heap.size, 1, .slice q2 ps.length c2), (w.heap.size, 2, .slice q3 rs.length c3)] := by rw [← hW0]; exact ((⟨BT.out t0, LT.out t0⟩ : St w t0.w _)).box #[.int .i64 (m1), .int .i64 (m2), .int .i64 (m3), .int .i64 (m4), .int .i64 (m5)] 73 (t0.w.heap.size) (by simp)
      rw [hW0]
      clear hW0
      obtain ⟨kF, hkk⟩ : ∃ k, t0.w.heap.size = k := ⟨_, rfl⟩
      have gkF : w.heap.size ≤ kF := by rw [← hkk]; exact (BT.out t0).size
      rw [hkk] at S0 ⊢
      have HKF := Lib.hid hkk
      clear hkk
      obtain ⟨F, hC0, HF, LF, BF, hne⟩ := cls S0
      haveI := hne
      obtain ⟨f0, rfl⟩ : ∃ n : Wd F, W0 = n.w := ⟨⟨_, hC0⟩, rfl⟩
      have fF0 : ∀ n : Wd F, n.w.cell? ⟨kF, 0, none⟩ = some (.int .i64 (m1)) := fun n => (LF.out n).1.2.1
      have fF1 : ∀ n : Wd F, n.w.cell? ⟨kF, 1, none⟩ = some (.int .i64 (m2)) := fun n => (LF.out n).2.1.2.1
      have fF2 : ∀ n : Wd F, n.w.cell? ⟨kF, 2, none⟩ = some (.int .i64 (m3)) := fun n => (LF.out n).2.2.1.2.1
      have fF3 : ∀ n : Wd F, n.w.cell? ⟨kF, 3, none⟩ = some (.int .i64 (m4)) := fun n => (LF.out n).2.2.2.1.2.1
      have fF4 : ∀ n : Wd F, n.w.cell? ⟨kF, 4, none⟩ = some (.int .i64 (m5)) := fun n => (LF.out n).2.2.2.2.1.2.1
      have fF5 : ∀ n : Wd F, n.w.cell? ⟨kR, 0, none⟩ = some (.int .i64 tl) := fun n => (LF.out n).2.2.2.2.2.1.2.1
      have fF6 : ∀ n : Wd F, n.w.cell? ⟨kR, 1, none⟩ = some (.int .i64 th) := fun n => (LF.out n).2.2.2.2.2.2.1.2.1
      have fF7 : ∀ n : Wd F, n.w.cell? ⟨kG, 0, none⟩ = some (.int .i64 (bl)) := fun n => (LF.out n).2.2.2.2.2.2.2.1.2.1
      have fF8 : ∀ n : Wd F, n.w.cell? ⟨kG, 1, none⟩ = some (.int .i64 (bh)) := fun n => (LF.out n).2.2.2.2.2.2.2.2.1.2.1
      have fF9 : ∀ n : Wd F, n.w.cell? ⟨kD, 0, none⟩ = some (.int .i64 (al)) := fun n => (LF.out n).2.2.2.2.2.2.2.2.2.1.2.1
      have fF10 : ∀ n : Wd F, n.w.cell? ⟨kD, 1, none⟩ = some (.int .i64 (ah)) := fun n => (LF.out n).2.2.2.2.2.2.2.2.2.2.1.2.1
      have fF11 : ∀ n : Wd F, n.w.cell? ⟨w.heap.size, 0, none⟩ = some (.slice q1 cs.length c1) := fun n => (LF.out n).2.2.2.2.2.2.2.2.2.2.2.1.2.1
      have fF12 : ∀ n : Wd F, n.w.cell? ⟨w.heap.size, 1, none⟩ = some (.slice q2 ps.length c2) := fun n => (LF.out n).2.2.2.2.2.2.2.2.2.2.2.2.1.2.1
      have fF13 : ∀ n : Wd F, n.w.cell? ⟨w.heap.size, 2, none⟩ = some (.slice q3 rs.length c3) := fun n => (LF.out n).2.2.2.2.2.2.2.2.2.2.2.2.2.1.2.1
      clear S0 hC0
      have D2 := cinL HF BF KM1
      clear KM1
      go_upto_region 12 with (first | first | (go_at_call 49; with_reducible refine (D2 _).out.mono ?_; rintro e w' ⟨rfl, n, rfl⟩))
      obtain ⟨W0, hW0⟩ : ∃ W0, (n.w).alloc (.cells #[.int .i64 (p), .int .i64 (p2)] 30) = W0 := ⟨_, rfl⟩
      have S0 : St w W0 [(n.w.heap.size, 0, .int .i64 (p)), (n.w.heap.size, 1, .int .i64 (p2)), (kF, 0, .int .i64 (m1)), (kF, 1, .int .i64 (m2)), (kF, 2, .int .i64 (m3)), (kF, 3, .int .i64 (m4)), (kF, 4, .int .i64 (m5)), (kR, 0, .int .i64 tl), (kR, 1, .int .i64 th), (kG, 0, .int .i64 (bl)), (kG, 1, .int .i64 (bh)), (kD, 0, .int .i64 (al)), (kD, 1, .int .i64 (ah)), (w.heap.size, 0, .slice q1 cs.length c1), (w.heap.size, 1, .slice q2 ps.length c2), (w.heap.size, 2, .slice q3 rs.length c3)] := by rw [← hW0]; exact ((⟨BF.out n, LF.out n⟩ : St w n.w _)).box #[.int .i64 (p), .int .i64 (p2)] 30 (n.w.heap.size) (by simp)
      rw [hW0]
      clear hW0
      obtain ⟨kX, hkk⟩ : ∃ k, n.w.heap.size = k := ⟨_, rfl⟩
      have gkX : w.heap.size ≤ kX := by rw [← hkk]; exact (BF.out n).size
      rw [hkk] at S0 ⊢
      have HKX := Lib.hid hkk
      clear hkk
      obtain ⟨X, hC0, HX, LX, BX, hne⟩ := cls S0
      haveI := hne
      obtain ⟨x0, rfl⟩ : ∃ n : Wd X, W0 = n.w := ⟨⟨_, hC0⟩, rfl⟩
      have fX0 : ∀ n : Wd X, n.w.cell? ⟨kX, 0, none⟩ = some (.int .i64 (p)) := fun n => (LX.out n).1.2.1
      have fX1 : ∀ n : Wd X, n.w.cell? ⟨kX, 1, none⟩ = some (.int .i64 (p2)) := fun n => (LX.out n).2.1.2.1
      have fX2 : ∀ n : Wd X, n.w.cell? ⟨kF, 0, none⟩ = some (.int .i64 (m1)) := fun n => (LX.out n).2.2.1.2.1
      have fX3 : ∀ n : Wd X, n.w.cell? ⟨kF, 1, none⟩ = some (.int .i64 (m2)) := fun n => (LX.out n).2.2.2.1.2.1
      have fX4 : ∀ n : Wd X, n.w.cell? ⟨kF, 2, none⟩ = some (.int .i64 (m3)) := fun n => (LX.out n).2.2.2.2.1.2.1
      have fX5 : ∀ n : Wd X, n.w.cell? ⟨kF, 3, none⟩ = some (.int .i64 (m4)) := fun n => (LX.out n).2.2.2.2.2.1.2.1
      have fX6 : ∀ n : Wd X, n.w.cell? ⟨kF, 4, none⟩ = some (.int .i64 (m5)) := fun n => (LX.out n).2.2.2.2.2.2.1.2.1
      have fX7 : ∀ n : Wd X, n.w.cell? ⟨kR, 0, none⟩ = some (.int .i64 tl) := fun n => (LX.out n).2.2.2.2.2.2.2.1.2.1
      have fX8 : ∀ n : Wd X, n.w.cell? ⟨kR, 1, none⟩ = some (.int .i64 th) := fun n => (LX.out n).2.2.2.2.2.2.2.2.1.2.1
      have fX9 : ∀ n : Wd X, n.w.cell? ⟨kG, 0, none⟩ = some (.int .i64 (bl)) := fun n => (LX.out n).2.2.2.2.2.2.2.2.2.1.2.1
      have fX10 : ∀ n : Wd X, n.w.cell? ⟨kG, 1, none⟩ = some (.int .i64 (bh)) := fun n => (LX.out n).2.2.2.2.2.2.2.2.2.2.1.2.1
      have fX11 : ∀ n : Wd X, n.w.cell? ⟨kD, 0, none⟩ = some (.int .i64 (al)) := fun n => (LX.out n).2.2.2.2.2.2.2.2.2.2.2.1.2.1
      have fX12 : ∀ n : Wd X, n.w.cell? ⟨kD, 1, none⟩ = some (.int .i64 (ah)) := fun n => (LX.out n).2.2.2.2.2.2.2.2.2.2.2.2.1.2.1
      have fX13 : ∀ n : Wd X, n.w.cell? ⟨w.heap.size, 0, none⟩ = some (.slice q1 cs.length c1) := fun n => (LX.out n).2.2.2.2.2.2.2.2.2.2.2.2.2.1.2.1
      have fX14 : ∀ n : Wd X, n.w.cell? ⟨w.heap.size, 1, none⟩ = some (.slice q2 ps.length c2) := fun n => (LX.out n).2.2.2.2.2.2.2.2.2.2.2.2.2.2.1.2.1
      have fX15 : ∀ n : Wd X, n.w.cell? ⟨w.heap.size, 2, none⟩ = some (.slice q3 rs.length c3) := fun n => (LX.out n).2.2.2.2.2.2.2.2.2.2.2.2.2.2.2.1.2.1
      clear S0 hC0
      clear D2 b1 b2 b3 b4 b5
      by_cases hg0 : g = 0
      · subst hg0
        obtain ⟨hs0, hs9⟩ := HSL5.out (by first | rfl | trivial)
        have hsum : wrap64 (m5 + more) = m5 + more := w64 (by omega)
        have hcv : IntKind.i64.wrap more = more := by rw [wrapEq]; exact w64 (by omega)
        by_cases hgt : 100000 < m5 + more
        · have hgt' : decide (100000 < m5 + more) = true := by simpa using hgt
          clear hgt hs0 hs9
          go_wp2_with fail
          go_roundw
          case rel => exact ⟨k + 1, ⟨BX.out x0, (LX.out x0).2.2.2.2.2.2.2⟩, by simp, hlt⟩
          case measure => simp [intOf]; omega
        · have hgt' : decide (100000 < m5 + more) = false := by simpa using hgt
          obtain ⟨hg2, hl2, hh2⟩ := HMO.out rfl hmr.1 (by omega)
          subst hg2
          have zX4 : ∀ n : Wd X, n.w.frozen? ⟨kF, 4, none⟩ = false := fun n => (LX.out n).2.2.2.2.2.2.1.2.2
          have hFw : kF ≠ w.heap.size := by have h1 := (LT.out t0).2.2.2.2.2.2.1.1; have h2 := HKF.out; omega
          have hXF : kX ≠ kF := by have h1 := (LF.out n).1.1; have h2 := HKX.out; omega
          have hRF : kR ≠ kF ∧ kG ≠ kF ∧ kD ≠ kF := by have h2 := HKF.out; have h3 := (LT.out t0).1.1; have h4 := (LT.out t0).2.2.1.1; have h5 := (LT.out t0).2.2.2.2.1.1; omega
          clear hgt hs0 hs9
          go_upto_region 14 with fail
          have S9 : St w (x0.w.setCell ⟨kF, 4, none⟩ (.int .i64 (m5 + more))) ((kX, 0, .int .i64 p) :: (kX, 1, .int .i64 p2) :: (kF, 0, .int .i64 m1) :: (kF, 1, .int .i64 m2) :: (kF, 2, .int .i64 m3) :: (kF, 3, .int .i64 m4) :: (kF, 4, .int .i64 (m5 + more)) :: [(kR, 0, .int .i64 tl), (kR, 1, .int .i64 th), (kG, 0, .int .i64 (bl)), (kG, 1, .int .i64 (bh)), (kD, 0, .int .i64 (al)), (kD, 1, .int .i64 (ah)), (w.heap.size, 0, .slice q1 cs.length c1), (w.heap.size, 1, .slice q2 ps.length c2), (w.heap.size, 2, .slice q3 rs.length c3)]) := by
            refine ⟨below_grownB (BX.out x0) gkF (set_grown _ _ _ _), ?_⟩
            have := (LX.out x0).upd (b := kF) (o := 4) (u := .int .i64 (m5 + more))
            have e1 : ¬ w.heap.size = kF := fun e => hFw e.symm
            simpa [hXF, e1, hRF.1, hRF.2.1, hRF.2.2] using this
          obtain ⟨W9, hW9⟩ : ∃ W, x0.w.setCell ⟨kF, 4, none⟩ (.int .i64 (m5 + more)) = W := ⟨_, rfl⟩
          rw [hW9] at S9 ⊢
          clear hW9 fX0 fX1 fX2 fX3 fX4 fX5 fX6 fX7 fX8 fX9 fX10 fX11 fX12 fX13 fX14 fX15 zX4 LX BX HX hFw hXF hRF
          obtain ⟨Y, hC0, HY, LY, BY, hne⟩ := cls S9
          haveI := hne
          obtain ⟨y0, rfl⟩ : ∃ n : Wd Y, W9 = n.w := ⟨⟨_, hC0⟩, rfl⟩
          have fY0 : ∀ n : Wd Y, n.w.cell? ⟨kX, 0, none⟩ = some (.int .i64 p) := fun n => (LY.out n).1.2.1
          have fY1 : ∀ n : Wd Y, n.w.cell? ⟨kX, 1, none⟩ = some (.int .i64 p2) := fun n => (LY.out n).2.1.2.1
          have fY2 : ∀ n : Wd Y, n.w.cell? ⟨kF, 0, none⟩ = some (.int .i64 m1) := fun n => (LY.out n).2.2.1.2.1
          have fY3 : ∀ n : Wd Y, n.w.cell? ⟨kF, 1, none⟩ = some (.int .i64 m2) := fun n => (LY.out n).2.2.2.1.2.1
          have fY4 : ∀ n : Wd Y, n.w.cell? ⟨kF, 2, none⟩ = some (.int .i64 m3) := fun n => (LY.out n).2.2.2.2.1.2.1
          have fY5 : ∀ n : Wd Y, n.w.cell? ⟨kF, 3, none⟩ = some (.int .i64 m4) := fun n => (LY.out n).2.2.2.2.2.1.2.1
          have fY6 : ∀ n : Wd Y, n.w.cell? ⟨kF, 4, none⟩ = some (.int .i64 (m5 + more)) := fun n => (LY.out n).2.2.2.2.2.2.1.2.1
          have fY7 : ∀ n : Wd Y, n.w.cell? ⟨kR, 0, none⟩ = some (.int .i64 tl) := fun n => (LY.out n).2.2.2.2.2.2.2.1.2.1
          have fY8 : ∀ n : Wd Y, n.w.cell? ⟨kR, 1, none⟩ = some (.int .i64 th) := fun n => (LY.out n).2.2.2.2.2.2.2.2.1.2.1
          have fY9 : ∀ n : Wd Y, n.w.cell? ⟨kG, 0, none⟩ = some (.int .i64 (bl)) := fun n => (LY.out n).2.2.2.2.2.2.2.2.2.1.2.1
          have fY10 : ∀ n : Wd Y, n.w.cell? ⟨kG, 1, none⟩ = some (.int .i64 (bh)) := fun n => (LY.out n).2.2.2.2.2.2.2.2.2.2.1.2.1
          have fY11 : ∀ n : Wd Y, n.w.cell? ⟨kD, 0, none⟩ = some (.int .i64 (al)) := fun n => (LY.out n).2.2.2.2.2.2.2.2.2.2.2.1.2.1
          have fY12 : ∀ n : Wd Y, n.w.cell? ⟨kD, 1, none⟩ = some (.int .i64 (ah)) := fun n => (LY.out n).2.2.2.2.2.2.2.2.2.2.2.2.1.2.1
          have fY13 : ∀ n : Wd Y, n.w.cell? ⟨w.heap.size, 0, none⟩ = some (.slice q1 cs.length c1) := fun n => (LY.out n).2.2.2.2.2.2.2.2.2.2.2.2.2.1.2.1
          have fY14 : ∀ n : Wd Y, n.w.cell? ⟨w.heap.size, 1, none⟩ = some (.slice q2 ps.length c2) := fun n => (LY.out n).2.2.2.2.2.2.2.2.2.2.2.2.2.2.1.2.1
          have fY15 : ∀ n : Wd Y, n.w.cell? ⟨w.heap.size, 2, none⟩ = some (.slice q3 rs.length c3) := fun n => (LY.out n).2.2.2.2.2.2.2.2.2.2.2.2.2.2.2.1.2.1
          clear S9 hC0
          have D3 := cinL HY BY KM2
          clear KM2
          go_upto_region 15 with (first | first | (go_at_call 49; with_reducible refine (D3 _).out.mono ?_; rintro e w' ⟨rfl, n, rfl⟩))
          obtain ⟨W0, hW0⟩ : ∃ W0, (n.w).alloc (.cells #[.int .i64 (s), .int .i64 (s2)] 30) = W0 := ⟨_, rfl⟩
          have S0 : St w W0 [(n.w.heap.size, 0, .int .i64 (s)), (n.w.heap.size, 1, .int .i64 (s2)), (kX, 0, .int .i64 p), (kX, 1, .int .i64 p2), (kF, 0, .int .i64 m1), (kF, 1, .int .i64 m2), (kF, 2, .int .i64 m3), (kF, 3, .int .i64 m4), (kF, 4, .int .i64 (m5 + more)), (kR, 0, .int .i64 tl), (kR, 1, .int .i64 th), (kG, 0, .int .i64 (bl)), (kG, 1, .int .i64 (bh)), (kD, 0, .int .i64 (al)), (kD, 1, .int .i64 (ah)), (w.heap.size, 0, .slice q1 cs.length c1), (w.heap.size, 1, .slice q2 ps.length c2), (w.heap.size, 2, .slice q3 rs.length c3)] := by rw [← hW0]; exact ((⟨BY.out n, LY.out n⟩ : St w n.w _)).box #[.int .i64 (s), .int .i64 (s2)] 30 (n.w.heap.size) (by simp)
          rw [hW0]
          clear hW0
          obtain ⟨kZ, hkk⟩ : ∃ k, n.w.heap.size = k := ⟨_, rfl⟩
          have gkZ : w.heap.size ≤ kZ := by rw [← hkk]; exact (BY.out n).size
          rw [hkk] at S0 ⊢
          clear hkk
          obtain ⟨Z, hC0, HZ, LZ, BZ, hne⟩ := cls S0
          haveI := hne
          obtain ⟨z0, rfl⟩ : ∃ n : Wd Z, W0 = n.w := ⟨⟨_, hC0⟩, rfl⟩
          have fZ0 : ∀ n : Wd Z, n.w.cell? ⟨kZ, 0, none⟩ = some (.int .i64 (s)) := fun n => (LZ.out n).1.2.1
          have fZ1 : ∀ n : Wd Z, n.w.cell? ⟨kZ, 1, none⟩ = some (.int .i64 (s2)) := fun n => (LZ.out n).2.1.2.1
          have fZ2 : ∀ n : Wd Z, n.w.cell? ⟨kX, 0, none⟩ = some (.int .i64 p) := fun n => (LZ.out n).2.2.1.2.1
          have fZ3 : ∀ n : Wd Z, n.w.cell? ⟨kX, 1, none⟩ = some (.int .i64 p2) := fun n => (LZ.out n).2.2.2.1.2.1
          have fZ4 : ∀ n : Wd Z, n.w.cell? ⟨kF, 0, none⟩ = some (.int .i64 m1) := fun n => (LZ.out n).2.2.2.2.1.2.1
          have fZ5 : ∀ n : Wd Z, n.w.cell? ⟨kF, 1, none⟩ = some (.int .i64 m2) := fun n => (LZ.out n).2.2.2.2.2.1.2.1
          have fZ6 : ∀ n : Wd Z, n.w.cell? ⟨kF, 2, none⟩ = some (.int .i64 m3) := fun n => (LZ.out n).2.2.2.2.2.2.1.2.1
          have fZ7 : ∀ n : Wd Z, n.w.cell? ⟨kF, 3, none⟩ = some (.int .i64 m4) := fun n => (LZ.out n).2.2.2.2.2.2.2.1.2.1
          have fZ8 : ∀ n : Wd Z, n.w.cell? ⟨kF, 4, none⟩ = some (.int .i64 (m5 + more)) := fun n => (LZ.out n).2.2.2.2.2.2.2.2.1.2.1
          have fZ9 : ∀ n : Wd Z, n.w.cell? ⟨kR, 0, none⟩ = some (.int .i64 tl) := fun n => (LZ.out n).2.2.2.2.2.2.2.2.2.1.2.1
          have fZ10 : ∀ n : Wd Z, n.w.cell? ⟨kR, 1, none⟩ = some (.int .i64 th) := fun n => (LZ.out n).2.2.2.2.2.2.2.2.2.2.1.2.1
          have fZ11 : ∀ n : Wd Z, n.w.cell? ⟨kG, 0, none⟩ = some (.int .i64 (bl)) := fun n => (LZ.out n).2.2.2.2.2.2.2.2.2.2.2.1.2.1
          have fZ12 : ∀ n : Wd Z, n.w.cell? ⟨kG, 1, none⟩ = some (.int .i64 (bh)) := fun n => (LZ.out n).2.2.2.2.2.2.2.2.2.2.2.2.1.2.1
          have fZ13 : ∀ n : Wd Z, n.w.cell? ⟨kD, 0, none⟩ = some (.int .i64 (al)) := fun n => (LZ.out n).2.2.2.2.2.2.2.2.2.2.2.2.2.1.2.1
          have fZ14 : ∀ n : Wd Z, n.w.cell? ⟨kD, 1, none⟩ = some (.int .i64 (ah)) := fun n => (LZ.out n).2.2.2.2.2.2.2.2.2.2.2.2.2.2.1.2.1
          have fZ15 : ∀ n : Wd Z, n.w.cell? ⟨w.heap.size, 0, none⟩ = some (.slice q1 cs.length c1) := fun n => (LZ.out n).2.2.2.2.2.2.2.2.2.2.2.2.2.2.2.1.2.1
          have fZ16 : ∀ n : Wd Z, n.w.cell? ⟨w.heap.size, 1, none⟩ = some (.slice q2 ps.length c2) := fun n => (LZ.out n).2.2.2.2.2.2.2.2.2.2.2.2.2.2.2.2.1.2.1
          have fZ17 : ∀ n : Wd Z, n.w.cell? ⟨w.heap.size, 2, none⟩ = some (.slice q3 rs.length c3) := fun n => (LZ.out n).2.2.2.2.2.2.2.2.2.2.2.2.2.2.2.2.2.1.2.1
          clear S0 hC0
          have q1 : ¬ p < s := by omega
          have q2 : ¬ s2 < p2 := by omega
          go_wp2_with fail
          go_roundw
          case rel => exact ⟨k + 1, ⟨BZ.out z0, (LZ.out z0).2.2.2.2.2.2.2.2.2⟩, by simp, hlt⟩
          case measure => simp [intOf]; omega
      · have hg' : (g != 0) = true := by simpa using hg0
        clear hg0
        go_wp2_with fail
        go_roundw
        case rel => exact ⟨k + 1, ⟨BX.out x0, (LX.out x0).2.2.2.2.2.2.2⟩, by simp, hlt⟩
        case measure => simp [intOf]; omega
    · obtain rfl : k = la.length := by omega
      go_wp2_with (first | first | (go_at_call 20; with_reducible refine (KS _).out.mono ?_; rintro e w' ⟨rfl, n, rfl⟩))
      go_ret
      exact ⟨rfl, BT.out _⟩
end Go.Proofs.YtcejmfgbfdhflaaGreat
