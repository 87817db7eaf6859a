import Derived.Test.YtpfnnjfapcnbnaaGreatDoorRows
import Derived.Test.YtpfnnjfapcnbnaaGreatDoorLa
import Derived.LaidLaws
import Derived.ChangeArms
import Derived.ChangeSame
import Derived.Deep.Slices
import Derived.Deep.RegionWith
import Derived.Test.YtpfnnjfapcnbnaaGreatDoorWF2a
import Derived.Deep.RegionHeld3
import Derived.Sort.Walk0
import Derived.Lib.Hide
namespace Go.Proofs.YtpfnnjfapcnbnaaGreatDoor.pf
open Go.ChangeShapes Go.WideShapes Go.ChangeAt Go.RowKit Go.Deep
set_option linter.unusedVariables false
set_option linter.unusedSimpArgs false
structure Gn where
 n : Int
 p : ByteArray
structure Pr where
 name : ByteArray
 now : Int
 gens : List Gn
instance : Inhabited Gn := ⟨⟨0, ⟨#[]⟩⟩⟩
instance : Inhabited Pr := ⟨⟨⟨#[]⟩, 0, []⟩⟩
def G2 (w : World) (b o : Nat) (x : Gn) : Prop := w.cell? ⟨b, o, none⟩ = some (.int .i64 x.n) ∧ w.cell? ⟨b, o + 1, none⟩ = some (.string x.p)
theorem G2.below {w w' : World} {b o : Nat} {x : Gn} (h : G2 w b o x) (hb : Below w.heap.size w w') : G2 w' b o x :=
 ⟨(hb.cell (p := ⟨b, _, none⟩) (World.block_lt_of_cell? _ _ h.1)).trans h.1, (hb.cell (p := ⟨b, _, none⟩) (World.block_lt_of_cell? _ _ h.2)).trans h.2⟩
theorem G2.kept {w w' : World} {b o : Nat} {x : Gn} (h : G2 w b o x) (hb : w'.heap[b]? = w.heap[b]?) : G2 w' b o x :=
 ⟨(World.cell?_of_block (a := ⟨b, _, none⟩) hb).trans h.1, (World.cell?_of_block (a := ⟨b, _, none⟩) hb).trans h.2⟩
def wtS (l : List Gn) (k : Nat) : Nat := ((l.take k).map fun x => x.p.size).sum
theorem sum_mem {α : Type} (f : α → Nat) : ∀ {l : List α} {x : α}, x ∈ l → f x ≤ (l.map f).sum
 | y :: l, x, h => by
  rw [List.map_cons, List.sum_cons]
  rcases List.mem_cons.1 h with rfl | h
  ·omega
  ·have := sum_mem f h; omega
theorem cellsI : Tryz.prog.cellsOf 2 = 1 := by kernel_rfl
theorem cellsS : Tryz.prog.cellsOf 9 = 1 := by kernel_rfl
end Go.Proofs.YtpfnnjfapcnbnaaGreatDoor.pf
namespace Go.Proofs.YtpfnnjfapcnbnaaGreatDoor.pf
open Go.ChangeShapes Go.WideShapes Go.ChangeAt Go.RowKit Go.Deep
set_option linter.unusedVariables false
set_option linter.unusedSimpArgs false
theorem bl (x y : ByteArray) : Op.bytesLess x.toList y.toList = decide (x.data.toList < y.data.toList) := by
 rw [ByteArray.toList_eq, ByteArray.toList_eq, Go.Proofs.bytesLess_eq]
end Go.Proofs.YtpfnnjfapcnbnaaGreatDoor.pf
namespace Go.Proofs.YtpfnnjfapcnbnaaGreatDoor.pf
open Go.ChangeShapes Go.WideShapes Go.ChangeAt Go.RowKit Go.Deep Go.Maps
set_option linter.unusedVariables false
set_option linter.unusedSimpArgs false
theorem grown_of {w w' : World} (hb : Below w.heap.size w w') : w.grownBy w' none := ⟨hb.os, hb.tape, hb.output, hb.size, fun k hk _ => hb.block k hk⟩
def LV (w : World) (mb : Nat) : Prop := w.ownsMap Tryz.prog 5 (plainElem Tryz.prog 124) mb 32 (wd.lvD 32)
theorem LV.below {w w' : World} {mb : Nat} (h : LV w mb) (hb : Below w.heap.size w w') : LV w' mb := World.ownsMap.kept h (grown_of hb) (by simp)
end Go.Proofs.YtpfnnjfapcnbnaaGreatDoor.pf
