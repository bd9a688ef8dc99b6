import Derived.Test.YtmfhpddeclggfaaGreatDoorOm
namespace Go.Proofs.YtmfhpddeclggfaaGreatDoor
open Go Go.RowKit
theorem data_inj1 {a b : ByteArray} (h : a.data.toList = b.data.toList) : a = b := by
  cases a; cases b; simp only [ByteArray.mk.injEq]; exact Array.toList_inj.1 h
/-! Fates. -/
structure Ft where
  kd : Nat
  pos : Nat
  pl : List Nat
  byt : UInt8
def blotL (l : List UInt8) (pl : List Nat) : List UInt8 := pl.foldl (fun l p => l.set (p % l.length) 63) l
/-- What is left of a line; none: it is lost. -/
def fatC (s : List UInt8) (f : Ft) : Option (List UInt8) :=
  if f.kd % 7 = 1 then none
  else if f.kd % 7 = 2 then some (s.take (f.pos % s.length))
  else if f.kd % 7 = 3 then some (blotL s f.pl)
  else if f.kd % 7 = 4 then some ((blotL s f.pl).take (f.pos % s.length))
  else if f.kd % 7 = 5 then some (s.set (f.pos % s.length) f.byt)
  else if f.kd % 7 = 6 then some (if f.pos % s.length + 1 < s.length then swp s (f.pos % s.length) else s)
  else some s
end Go.Proofs.YtmfhpddeclggfaaGreatDoor
