import Derived.Test.YtmfhpddeclggfaaGreatDoorLaws1
import Derived.WalkKit
import Derived.LoopTactic
import Derived.WalkSpells
import Derived.WalkLawsBesides
import Derived.Lib.Hide
import Derived.BigQuiet
import Derived.StillTailTactics
import Derived.Lib.SlBytesConst
import Derived.Deep.RegionLaw
import Derived.Deep.QuietTactic
namespace Go.Proofs.YtmfhpddeclggfaaGreatDoor
open Go.RowKit
theorem OwnM.read {w : World} {base : Nat} {e : TypeId} {v : Value} {n : Nat} {xs : List Value} (h : OwnM w base e v n xs) :
    xs.length = n ∧ ((v = .slice none 0 0 ∧ n = 0 ∧ xs = []) ∨ ∃ (g cap : Nat), v = .slice (some ⟨g, 0, none⟩) n cap ∧ base ≤ g ∧ ∀ j u, xs[j]? = some u → w.cell? ⟨g, j, none⟩ = some u) := by
  rcases h with ⟨h1, h2 | ⟨g, cap, cur, rfl, hg, hb, hn, hc, hs, ht⟩⟩ | ⟨g, fz, rfl, hg, hb, hl⟩
  · obtain ⟨rfl, rfl⟩ := h2
    exact ⟨by simpa using h1, Or.inl ⟨rfl, rfl, List.eq_nil_of_length_eq_zero (by simpa using h1)⟩⟩
  · refine ⟨by simpa using h1, Or.inr ⟨g, cap, rfl, hg, fun j u hu => ?_⟩⟩
    unfold World.cell?
    rw [hb]
    rw [← ht] at hu
    rw [List.getElem?_take] at hu
    split at hu
    · simpa using hu
    · cases hu
  · refine ⟨hl, Or.inr ⟨g, n, rfl, hg, fun j u hu => ?_⟩⟩
    unfold World.cell?
    rw [hb]
    simpa using hu
theorem strOfNums_bytes (l : List UInt8) : strOfNums (l.map fun b => (b.toNat : Int)) = bs l := by
  apply ByteArray.ext
  rw [← Array.toList_inj]
  rw [strOfNums_data]
  simp only [bs, List.map_map]
  induction l with
  | nil => rfl
  | cons c r ih => simp at ih ⊢; exact ih
/-- 'string(b)' of such a slice of bytes. -/
theorem OwnM.str {P : Program} {w : World} {base : Nat} {e : TypeId} {v : Value} {n : Nat} {l : List UInt8} (h : OwnM w base e v n (Lib.byteCells l)) (src dst : TypeId) (hs : P.underlying src = some (.slice e)) (he : P.underlying e = some (.int .u8)) (hd : P.underlying dst = some .string) :
    (convert src dst v).run P w = .ok (.string (bs l)) w := by
  obtain ⟨hl, h | ⟨g, cap, rfl, hg, hc⟩⟩ := h.read
  · obtain ⟨rfl, rfl, hx⟩ := h
    have : l = [] := by simpa [Lib.byteCells] using hx
    subst this
    exact run_convert_bytes_nil w src e hs he 0 0 dst hd
  · have := run_convert_bytes_arg w src e hs he g 0 n cap (l.map fun b => (b.toNat : Int)) (by simpa [Lib.byteCells] using hl) (fun i hi => by
      rw [Nat.zero_add]
      apply hc
      have hi' : i < l.length := by rw [Lib.byteCells_length] at hl; omega
      simp [Lib.byteCells, List.getD, List.getElem?_eq_getElem hi']) dst hd
    rw [this, strOfNums_bytes]
theorem cells_new (w : World) (C : Array Value) (e : TypeId) : ∀ j u, C.toList[j]? = some u → (w.alloc (.cells C e)).cell? ((⟨w.heap.size, 0, none⟩ : Addr).add j) = some u := by
  intro j u hu
  rw [show (⟨w.heap.size, 0, none⟩ : Addr).add j = ⟨w.heap.size, j, none⟩ from by simp [Addr.add]; omega]
  have : (w.alloc (.cells C e)).heap[w.heap.size]? = some (.cells C e) := by
    show (w.heap.push (.cells C e))[w.heap.size]? = _
    simp
  unfold World.cell?
  rw [this]
  simpa using hu
theorem cells_new_drew (w : World) (C : Array Value) (e : TypeId) : ∀ j u, C.toList[j]? = some u → (w.alloc (.cells C e)).drew.cell? ((⟨w.heap.size, 0, none⟩ : Addr).add j) = some u :=
  cells_new w C e
theorem and15_fin : ∀ c : Fin 256, bits .and .u8 ((c.val : Nat) : Int) 15 = ((c.val % 16 : Nat) : Int) := by decide +kernel
theorem and15 (c : UInt8) : bits .and .u8 (c.toNat : Int) 15 = ((c.toNat % 16 : Nat) : Int) := and15_fin ⟨c.toNat, c.toNat_lt⟩
def hexs : ByteArray := ⟨#[48, 49, 50, 51, 52, 53, 54, 55, 56, 57, 97, 98, 99, 100, 101, 102]⟩
theorem hexs_size : hexs.size = 16 := by decide
theorem info5 : (Tryz.prog.info? 5).map (fun i => (i.zero, i.size, i.bytes)) = some (some (.int .u8 0), 1, 1) := by kernel_rfl
/-- A digit of 0123456789abcdef. -/
def hx (d : Nat) : UInt8 := hexs.data.toList.getD d 0
theorem hexs_at (z : Int) (d : Nat) (hz : z = d) (hd : d < 16) (h : z.toNat < hexs.size) : hexs[z.toNat] = hx d := by
  subst hz
  simp only [Int.toNat_natCast]
  have : hexs[d] = hexs.data.toList[d]'(by have := hexs_size; simpa using (by omega : d < hexs.size)) := rfl
  simp only [Int.toNat_natCast] at h
  unfold hx
  rw [List.getD, List.getElem?_eq_getElem (by simpa using h)]
  rfl
def txt (l : List UInt8) : List UInt8 := 61 :: l.flatMap fun c => [hx (c.toNat / 16), hx (c.toNat % 16)]
theorem txt_snoc (l : List UInt8) (c : UInt8) : txt (l ++ [c]) = txt l ++ [hx (c.toNat / 16), hx (c.toNat % 16)] := by simp [txt]
theorem txt_length (l : List UInt8) : (txt l).length = 1 + 2 * l.length := by
  induction l with
  | nil => rfl
  | cons c r ih => simp [txt] at ih ⊢; omega
theorem take_snoc (s : ByteArray) (k : Nat) (h : k < s.size) : s.data.toList.take (k + 1) = s.data.toList.take k ++ [s[k]] := by
  rw [List.take_succ_eq_append_getElem (by simpa using h)]; rfl
theorem txt_step (s : ByteArray) (k : Nat) (h : k < s.size) (X Y : UInt8) (hX : X = hx (s[k].toNat / 16)) (hY : Y = hx (s[k].toNat % 16)) :
    Lib.byteCells (txt (s.data.toList.take k)) ++ [.int .u8 X.toNat, .int .u8 Y.toNat] = Lib.byteCells (txt (s.data.toList.take (k + 1))) := by
  rw [take_snoc s k h, txt_snoc, Lib.byteCells_append, hX, hY]; rfl
end Go.Proofs.YtmfhpddeclggfaaGreatDoor
