import Derived.Test.YthbgpfjbfkiljaaGreatDoorG13
import Derived.Test.YthbgpfjbfkiljaaGreatDoorG15
import Derived.Test.YthbgpfjbfkiljaaGreatDoorG07
import Derived.Stop.BytesEq
import Derived.Deep.RegionHeld3
import Derived.Deep.QuietTactic
set_option linter.unusedVariables false
set_option linter.unusedSimpArgs false
set_option maxRecDepth 100000
set_option maxHeartbeats 16000000
namespace Go.Proofs.YthbgpfjbfkiljaaGreatDoor.so
open Go.ChangeShapes Go.WideShapes Go.ChangeAt Go.RowKit Go.Deep Go.Shelf
def frB (s : ByteArray) : Bool := decide (s = ⟨#[]⟩) || wd.aokB s
theorem from_any (s : ByteArray) (hs : s.size ≤ 1048576) (w : World) (hT : wd.TabB w) :
  Calls Tryz.prog 151 #[.string s] w fun e w' => e = .returned (.bool (frB s)) ∧ Below w.heap.size w w' := by
 have HA := Lib.hid (wd.aimpl_any s hs w hT)
 by_cases he : s = ⟨#[]⟩
 ·subst he
  have hE : frB ⟨#[]⟩ = true := by simp [frB]
  rw [hE]
  go_enter Tryz.func151, Tryz.ntmps151
  go_wp2
  go_ret
  exact ⟨rfl, Below.refl _ _⟩
 ·have hE : frB s = wd.aokB s := by simp [frB, he]
  have hsb : ¬ s.toList = [] := by
   rw [ByteArray.toList_eq]
   exact fun e => he (by apply ByteArray.ext; apply Array.ext'; exact e)
  have hsi : s.toList.isEmpty = false := by simpa using hsb
  rw [hE]
  clear hE he
  go_enter Tryz.func151, Tryz.ntmps151
  go_wp2_with (go_at_call 150; refine HA.out.mono ?_; rintro e w1 ⟨rfl, hl1⟩)
  go_ret
  exact ⟨rfl, hl1⟩
theorem stamp_no (s : ByteArray) (hs : s.size ≤ 1048576) (h13 : s.size ≠ 13) (w : World) :
  Calls Tryz.prog 173 #[.string s] w fun e w' => e = .returned (.tuple #[.agg #[.int .u8 0, .int .u8 0, .int .u8 0, .int .u8 0, .int .u8 0, .int .u8 0, .int .u8 0, .int .u8 0, .int .u8 0, .int .u8 0, .int .u8 0, .int .u8 0, .int .u8 0], .bool false]) ∧ Below w.heap.size w w' := by
 have h13' : ¬ (s.size : Int) = 13 := by omega
 go_enter Tryz.func173, Tryz.ntmps173
 go_wp2
 refine bodyPost_ret (v := .tuple #[.agg #[.int .u8 0, .int .u8 0, .int .u8 0, .int .u8 0, .int .u8 0, .int .u8 0, .int .u8 0, .int .u8 0, .int .u8 0, .int .u8 0, .int .u8 0, .int .u8 0, .int .u8 0], .bool false]) (by simp [results, Tryz.results173, go_sem]) rfl ?_
 exact ⟨rfl, (Below.refl _ _).alloc (Nat.le_refl _) _⟩
theorem set13 (W : World) (b : Nat) (u : Value) (v0 v1 v2 v3 v4 v5 v6 v7 v8 v9 v10 v11 v12 : Value) (z0 : W.cell? ⟨b, 0, none⟩ = some u) (z1 : W.cell? ⟨b, 1, none⟩ = some u) (z2 : W.cell? ⟨b, 2, none⟩ = some u) (z3 : W.cell? ⟨b, 3, none⟩ = some u) (z4 : W.cell? ⟨b, 4, none⟩ = some u) (z5 : W.cell? ⟨b, 5, none⟩ = some u) (z6 : W.cell? ⟨b, 6, none⟩ = some u) (z7 : W.cell? ⟨b, 7, none⟩ = some u) (z8 : W.cell? ⟨b, 8, none⟩ = some u) (z9 : W.cell? ⟨b, 9, none⟩ = some u) (z10 : W.cell? ⟨b, 10, none⟩ = some u) (z11 : W.cell? ⟨b, 11, none⟩ = some u) (z12 : W.cell? ⟨b, 12, none⟩ = some u) :
    (((((((((((((W.setCell ⟨b, 0, none⟩ v0).setCell ⟨b, 1, none⟩ v1).setCell ⟨b, 2, none⟩ v2).setCell ⟨b, 3, none⟩ v3).setCell ⟨b, 4, none⟩ v4).setCell ⟨b, 5, none⟩ v5).setCell ⟨b, 6, none⟩ v6).setCell ⟨b, 7, none⟩ v7).setCell ⟨b, 8, none⟩ v8).setCell ⟨b, 9, none⟩ v9).setCell ⟨b, 10, none⟩ v10).setCell ⟨b, 11, none⟩ v11).setCell ⟨b, 12, none⟩ v12).cell? ⟨b, 0, none⟩ = some v0 ∧ (((((((((((((W.setCell ⟨b, 0, none⟩ v0).setCell ⟨b, 1, none⟩ v1).setCell ⟨b, 2, none⟩ v2).setCell ⟨b, 3, none⟩ v3).setCell ⟨b, 4, none⟩ v4).setCell ⟨b, 5, none⟩ v5).setCell ⟨b, 6, none⟩ v6).setCell ⟨b, 7, none⟩ v7).setCell ⟨b, 8, none⟩ v8).setCell ⟨b, 9, none⟩ v9).setCell ⟨b, 10, none⟩ v10).setCell ⟨b, 11, none⟩ v11).setCell ⟨b, 12, none⟩ v12).cell? ⟨b, 1, none⟩ = some v1 ∧ (((((((((((((W.setCell ⟨b, 0, none⟩ v0).setCell ⟨b, 1, none⟩ v1).setCell ⟨b, 2, none⟩ v2).setCell ⟨b, 3, none⟩ v3).setCell ⟨b, 4, none⟩ v4).setCell ⟨b, 5, none⟩ v5).setCell ⟨b, 6, none⟩ v6).setCell ⟨b, 7, none⟩ v7).setCell ⟨b, 8, none⟩ v8).setCell ⟨b, 9, none⟩ v9).setCell ⟨b, 10, none⟩ v10).setCell ⟨b, 11, none⟩ v11).setCell ⟨b, 12, none⟩ v12).cell? ⟨b, 2, none⟩ = some v2 ∧ (((((((((((((W.setCell ⟨b, 0, none⟩ v0).setCell ⟨b, 1, none⟩ v1).setCell ⟨b, 2, none⟩ v2).setCell ⟨b, 3, none⟩ v3).setCell ⟨b, 4, none⟩ v4).setCell ⟨b, 5, none⟩ v5).setCell ⟨b, 6, none⟩ v6).setCell ⟨b, 7, none⟩ v7).setCell ⟨b, 8, none⟩ v8).setCell ⟨b, 9, none⟩ v9).setCell ⟨b, 10, none⟩ v10).setCell ⟨b, 11, none⟩ v11).setCell ⟨b, 12, none⟩ v12).cell? ⟨b, 3, none⟩ = some v3 ∧ (((((((((((((W.setCell ⟨b, 0, none⟩ v0).setCell ⟨b, 1, none⟩ v1).setCell ⟨b, 2, none⟩ v2).setCell ⟨b, 3, none⟩ v3).setCell ⟨b, 4, none⟩ v4).setCell ⟨b, 5, none⟩ v5).setCell ⟨b, 6, none⟩ v6).setCell ⟨b, 7, none⟩ v7).setCell ⟨b, 8, none⟩ v8).setCell ⟨b, 9, none⟩ v9).setCell ⟨b, 10, none⟩ v10).setCell ⟨b, 11, none⟩ v11).setCell ⟨b, 12, none⟩ v12).cell? ⟨b, 4, none⟩ = some v4 ∧ (((((((((((((W.setCell ⟨b, 0, none⟩ v0).setCell ⟨b, 1, none⟩ v1).setCell ⟨b, 2, none⟩ v2).setCell ⟨b, 3, none⟩ v3).setCell ⟨b, 4, none⟩ v4).setCell ⟨b, 5, none⟩ v5).setCell ⟨b, 6, none⟩ v6).setCell ⟨b, 7, none⟩ v7).setCell ⟨b, 8, none⟩ v8).setCell ⟨b, 9, none⟩ v9).setCell ⟨b, 10, none⟩ v10).setCell ⟨b, 11, none⟩ v11).setCell ⟨b, 12, none⟩ v12).cell? ⟨b, 5, none⟩ = some v5 ∧ (((((((((((((W.setCell ⟨b, 0, none⟩ v0).setCell ⟨b, 1, none⟩ v1).setCell ⟨b, 2, none⟩ v2).setCell ⟨b, 3, none⟩ v3).setCell ⟨b, 4, none⟩ v4).setCell ⟨b, 5, none⟩ v5).setCell ⟨b, 6, none⟩ v6).setCell ⟨b, 7, none⟩ v7).setCell ⟨b, 8, none⟩ v8).setCell ⟨b, 9, none⟩ v9).setCell ⟨b, 10, none⟩ v10).setCell ⟨b, 11, none⟩ v11).setCell ⟨b, 12, none⟩ v12).cell? ⟨b, 6, none⟩ = some v6 ∧ (((((((((((((W.setCell ⟨b, 0, none⟩ v0).setCell ⟨b, 1, none⟩ v1).setCell ⟨b, 2, none⟩ v2).setCell ⟨b, 3, none⟩ v3).setCell ⟨b, 4, none⟩ v4).setCell ⟨b, 5, none⟩ v5).setCell ⟨b, 6, none⟩ v6).setCell ⟨b, 7, none⟩ v7).setCell ⟨b, 8, none⟩ v8).setCell ⟨b, 9, none⟩ v9).setCell ⟨b, 10, none⟩ v10).setCell ⟨b, 11, none⟩ v11).setCell ⟨b, 12, none⟩ v12).cell? ⟨b, 7, none⟩ = some v7 ∧ (((((((((((((W.setCell ⟨b, 0, none⟩ v0).setCell ⟨b, 1, none⟩ v1).setCell ⟨b, 2, none⟩ v2).setCell ⟨b, 3, none⟩ v3).setCell ⟨b, 4, none⟩ v4).setCell ⟨b, 5, none⟩ v5).setCell ⟨b, 6, none⟩ v6).setCell ⟨b, 7, none⟩ v7).setCell ⟨b, 8, none⟩ v8).setCell ⟨b, 9, none⟩ v9).setCell ⟨b, 10, none⟩ v10).setCell ⟨b, 11, none⟩ v11).setCell ⟨b, 12, none⟩ v12).cell? ⟨b, 8, none⟩ = some v8 ∧ (((((((((((((W.setCell ⟨b, 0, none⟩ v0).setCell ⟨b, 1, none⟩ v1).setCell ⟨b, 2, none⟩ v2).setCell ⟨b, 3, none⟩ v3).setCell ⟨b, 4, none⟩ v4).setCell ⟨b, 5, none⟩ v5).setCell ⟨b, 6, none⟩ v6).setCell ⟨b, 7, none⟩ v7).setCell ⟨b, 8, none⟩ v8).setCell ⟨b, 9, none⟩ v9).setCell ⟨b, 10, none⟩ v10).setCell ⟨b, 11, none⟩ v11).setCell ⟨b, 12, none⟩ v12).cell? ⟨b, 9, none⟩ = some v9 ∧ (((((((((((((W.setCell ⟨b, 0, none⟩ v0).setCell ⟨b, 1, none⟩ v1).setCell ⟨b, 2, none⟩ v2).setCell ⟨b, 3, none⟩ v3).setCell ⟨b, 4, none⟩ v4).setCell ⟨b, 5, none⟩ v5).setCell ⟨b, 6, none⟩ v6).setCell ⟨b, 7, none⟩ v7).setCell ⟨b, 8, none⟩ v8).setCell ⟨b, 9, none⟩ v9).setCell ⟨b, 10, none⟩ v10).setCell ⟨b, 11, none⟩ v11).setCell ⟨b, 12, none⟩ v12).cell? ⟨b, 10, none⟩ = some v10 ∧ (((((((((((((W.setCell ⟨b, 0, none⟩ v0).setCell ⟨b, 1, none⟩ v1).setCell ⟨b, 2, none⟩ v2).setCell ⟨b, 3, none⟩ v3).setCell ⟨b, 4, none⟩ v4).setCell ⟨b, 5, none⟩ v5).setCell ⟨b, 6, none⟩ v6).setCell ⟨b, 7, none⟩ v7).setCell ⟨b, 8, none⟩ v8).setCell ⟨b, 9, none⟩ v9).setCell ⟨b, 10, none⟩ v10).setCell ⟨b, 11, none⟩ v11).setCell ⟨b, 12, none⟩ v12).cell? ⟨b, 11, none⟩ = some v11 ∧ (((((((((((((W.setCell ⟨b, 0, none⟩ v0).setCell ⟨b, 1, none⟩ v1).setCell ⟨b, 2, none⟩ v2).setCell ⟨b, 3, none⟩ v3).setCell ⟨b, 4, none⟩ v4).setCell ⟨b, 5, none⟩ v5).setCell ⟨b, 6, none⟩ v6).setCell ⟨b, 7, none⟩ v7).setCell ⟨b, 8, none⟩ v8).setCell ⟨b, 9, none⟩ v9).setCell ⟨b, 10, none⟩ v10).setCell ⟨b, 11, none⟩ v11).setCell ⟨b, 12, none⟩ v12).cell? ⟨b, 12, none⟩ = some v12 :=
  ⟨(rf.set_oth (by omega)).trans ((rf.set_oth (by omega)).trans ((rf.set_oth (by omega)).trans ((rf.set_oth (by omega)).trans ((rf.set_oth (by omega)).trans ((rf.set_oth (by omega)).trans ((rf.set_oth (by omega)).trans ((rf.set_oth (by omega)).trans ((rf.set_oth (by omega)).trans ((rf.set_oth (by omega)).trans ((rf.set_oth (by omega)).trans ((rf.set_oth (by omega)).trans (World.cell?_setCell_same _ _ _ (z0))))))))))))),
   (rf.set_oth (by omega)).trans ((rf.set_oth (by omega)).trans ((rf.set_oth (by omega)).trans ((rf.set_oth (by omega)).trans ((rf.set_oth (by omega)).trans ((rf.set_oth (by omega)).trans ((rf.set_oth (by omega)).trans ((rf.set_oth (by omega)).trans ((rf.set_oth (by omega)).trans ((rf.set_oth (by omega)).trans ((rf.set_oth (by omega)).trans (World.cell?_setCell_same _ _ _ ((rf.set_oth (by omega)).trans (z1))))))))))))),
   (rf.set_oth (by omega)).trans ((rf.set_oth (by omega)).trans ((rf.set_oth (by omega)).trans ((rf.set_oth (by omega)).trans ((rf.set_oth (by omega)).trans ((rf.set_oth (by omega)).trans ((rf.set_oth (by omega)).trans ((rf.set_oth (by omega)).trans ((rf.set_oth (by omega)).trans ((rf.set_oth (by omega)).trans (World.cell?_setCell_same _ _ _ ((rf.set_oth (by omega)).trans ((rf.set_oth (by omega)).trans (z2))))))))))))),
   (rf.set_oth (by omega)).trans ((rf.set_oth (by omega)).trans ((rf.set_oth (by omega)).trans ((rf.set_oth (by omega)).trans ((rf.set_oth (by omega)).trans ((rf.set_oth (by omega)).trans ((rf.set_oth (by omega)).trans ((rf.set_oth (by omega)).trans ((rf.set_oth (by omega)).trans (World.cell?_setCell_same _ _ _ ((rf.set_oth (by omega)).trans ((rf.set_oth (by omega)).trans ((rf.set_oth (by omega)).trans (z3))))))))))))),
   (rf.set_oth (by omega)).trans ((rf.set_oth (by omega)).trans ((rf.set_oth (by omega)).trans ((rf.set_oth (by omega)).trans ((rf.set_oth (by omega)).trans ((rf.set_oth (by omega)).trans ((rf.set_oth (by omega)).trans ((rf.set_oth (by omega)).trans (World.cell?_setCell_same _ _ _ ((rf.set_oth (by omega)).trans ((rf.set_oth (by omega)).trans ((rf.set_oth (by omega)).trans ((rf.set_oth (by omega)).trans (z4))))))))))))),
   (rf.set_oth (by omega)).trans ((rf.set_oth (by omega)).trans ((rf.set_oth (by omega)).trans ((rf.set_oth (by omega)).trans ((rf.set_oth (by omega)).trans ((rf.set_oth (by omega)).trans ((rf.set_oth (by omega)).trans (World.cell?_setCell_same _ _ _ ((rf.set_oth (by omega)).trans ((rf.set_oth (by omega)).trans ((rf.set_oth (by omega)).trans ((rf.set_oth (by omega)).trans ((rf.set_oth (by omega)).trans (z5))))))))))))),
   (rf.set_oth (by omega)).trans ((rf.set_oth (by omega)).trans ((rf.set_oth (by omega)).trans ((rf.set_oth (by omega)).trans ((rf.set_oth (by omega)).trans ((rf.set_oth (by omega)).trans (World.cell?_setCell_same _ _ _ ((rf.set_oth (by omega)).trans ((rf.set_oth (by omega)).trans ((rf.set_oth (by omega)).trans ((rf.set_oth (by omega)).trans ((rf.set_oth (by omega)).trans ((rf.set_oth (by omega)).trans (z6))))))))))))),
   (rf.set_oth (by omega)).trans ((rf.set_oth (by omega)).trans ((rf.set_oth (by omega)).trans ((rf.set_oth (by omega)).trans ((rf.set_oth (by omega)).trans (World.cell?_setCell_same _ _ _ ((rf.set_oth (by omega)).trans ((rf.set_oth (by omega)).trans ((rf.set_oth (by omega)).trans ((rf.set_oth (by omega)).trans ((rf.set_oth (by omega)).trans ((rf.set_oth (by omega)).trans ((rf.set_oth (by omega)).trans (z7))))))))))))),
   (rf.set_oth (by omega)).trans ((rf.set_oth (by omega)).trans ((rf.set_oth (by omega)).trans ((rf.set_oth (by omega)).trans (World.cell?_setCell_same _ _ _ ((rf.set_oth (by omega)).trans ((rf.set_oth (by omega)).trans ((rf.set_oth (by omega)).trans ((rf.set_oth (by omega)).trans ((rf.set_oth (by omega)).trans ((rf.set_oth (by omega)).trans ((rf.set_oth (by omega)).trans ((rf.set_oth (by omega)).trans (z8))))))))))))),
   (rf.set_oth (by omega)).trans ((rf.set_oth (by omega)).trans ((rf.set_oth (by omega)).trans (World.cell?_setCell_same _ _ _ ((rf.set_oth (by omega)).trans ((rf.set_oth (by omega)).trans ((rf.set_oth (by omega)).trans ((rf.set_oth (by omega)).trans ((rf.set_oth (by omega)).trans ((rf.set_oth (by omega)).trans ((rf.set_oth (by omega)).trans ((rf.set_oth (by omega)).trans ((rf.set_oth (by omega)).trans (z9))))))))))))),
   (rf.set_oth (by omega)).trans ((rf.set_oth (by omega)).trans (World.cell?_setCell_same _ _ _ ((rf.set_oth (by omega)).trans ((rf.set_oth (by omega)).trans ((rf.set_oth (by omega)).trans ((rf.set_oth (by omega)).trans ((rf.set_oth (by omega)).trans ((rf.set_oth (by omega)).trans ((rf.set_oth (by omega)).trans ((rf.set_oth (by omega)).trans ((rf.set_oth (by omega)).trans ((rf.set_oth (by omega)).trans (z10))))))))))))),
   (rf.set_oth (by omega)).trans (World.cell?_setCell_same _ _ _ ((rf.set_oth (by omega)).trans ((rf.set_oth (by omega)).trans ((rf.set_oth (by omega)).trans ((rf.set_oth (by omega)).trans ((rf.set_oth (by omega)).trans ((rf.set_oth (by omega)).trans ((rf.set_oth (by omega)).trans ((rf.set_oth (by omega)).trans ((rf.set_oth (by omega)).trans ((rf.set_oth (by omega)).trans ((rf.set_oth (by omega)).trans (z11))))))))))))),
   World.cell?_setCell_same _ _ _ ((rf.set_oth (by omega)).trans ((rf.set_oth (by omega)).trans ((rf.set_oth (by omega)).trans ((rf.set_oth (by omega)).trans ((rf.set_oth (by omega)).trans ((rf.set_oth (by omega)).trans ((rf.set_oth (by omega)).trans ((rf.set_oth (by omega)).trans ((rf.set_oth (by omega)).trans ((rf.set_oth (by omega)).trans ((rf.set_oth (by omega)).trans ((rf.set_oth (by omega)).trans (z12)))))))))))))⟩
theorem arr_at (b cap : Nat) (W : World) : (Instr.arrayAt 213 (.slice (some ⟨b, 0, none⟩) 13 cap)).run Tryz.prog W = .ok (.pointer (some ⟨b, 0, none⟩)) W := by
 simp [Instr.arrayAt, go_sem, Tryz.underlying213]
theorem stamp_yes (c0 c1 c2 c3 c4 c5 c6 c7 c8 c9 c10 c11 c12 : UInt8) (w : World) :
  Calls Tryz.prog 173 #[.string ⟨#[c0, c1, c2, c3, c4, c5, c6, c7, c8, c9, c10, c11, c12]⟩] w fun e w' => e = .returned (.tuple #[.agg #[.int .u8 (c0.toNat : Int), .int .u8 (c1.toNat : Int), .int .u8 (c2.toNat : Int), .int .u8 (c3.toNat : Int), .int .u8 (c4.toNat : Int), .int .u8 (c5.toNat : Int), .int .u8 (c6.toNat : Int), .int .u8 (c7.toNat : Int), .int .u8 (c8.toNat : Int), .int .u8 (c9.toNat : Int), .int .u8 (c10.toNat : Int), .int .u8 (c11.toNat : Int), .int .u8 (c12.toNat : Int)], .bool true]) ∧ Below w.heap.size w w' := by
 obtain ⟨z, cap, W1, hcv, hz, hcr⟩ := conv_row (P := Tryz.prog) (w.alloc (.cells #[.int .u8 0, .int .u8 0, .int .u8 0, .int .u8 0, .int .u8 0, .int .u8 0, .int .u8 0, .int .u8 0, .int .u8 0, .int .u8 0, .int .u8 0, .int .u8 0, .int .u8 0] 213)) 9 125 5 ⟨#[c0, c1, c2, c3, c4, c5, c6, c7, c8, c9, c10, c11, c12]⟩ (by show 13 ≤ _; omega) Tryz.underlying9 Tryz.underlying125 Tryz.underlying5
 have hz' : z = 13 := hz
 subst hz'
 have HCE : Hid (∀ j (h : j < 13), W1.cell? ⟨(w.alloc (.cells #[.int .u8 0, .int .u8 0, .int .u8 0, .int .u8 0, .int .u8 0, .int .u8 0, .int .u8 0, .int .u8 0, .int .u8 0, .int .u8 0, .int .u8 0, .int .u8 0, .int .u8 0] 213)).heap.size, j, none⟩ = some (.int .u8 ((#[c0, c1, c2, c3, c4, c5, c6, c7, c8, c9, c10, c11, c12] : Array UInt8)[j].toNat : Int))) := fun j h => hcr.cells j h
 have k0 : W1.cell? ⟨(w.alloc (.cells #[.int .u8 0, .int .u8 0, .int .u8 0, .int .u8 0, .int .u8 0, .int .u8 0, .int .u8 0, .int .u8 0, .int .u8 0, .int .u8 0, .int .u8 0, .int .u8 0, .int .u8 0] 213)).heap.size, 0, none⟩ = some (.int .u8 (c0.toNat : Int)) := HCE.out 0 (by show 0 < 13; omega)
 have k1 : W1.cell? ⟨(w.alloc (.cells #[.int .u8 0, .int .u8 0, .int .u8 0, .int .u8 0, .int .u8 0, .int .u8 0, .int .u8 0, .int .u8 0, .int .u8 0, .int .u8 0, .int .u8 0, .int .u8 0, .int .u8 0] 213)).heap.size, 1, none⟩ = some (.int .u8 (c1.toNat : Int)) := HCE.out 1 (by show 1 < 13; omega)
 have k2 : W1.cell? ⟨(w.alloc (.cells #[.int .u8 0, .int .u8 0, .int .u8 0, .int .u8 0, .int .u8 0, .int .u8 0, .int .u8 0, .int .u8 0, .int .u8 0, .int .u8 0, .int .u8 0, .int .u8 0, .int .u8 0] 213)).heap.size, 2, none⟩ = some (.int .u8 (c2.toNat : Int)) := HCE.out 2 (by show 2 < 13; omega)
 have k3 : W1.cell? ⟨(w.alloc (.cells #[.int .u8 0, .int .u8 0, .int .u8 0, .int .u8 0, .int .u8 0, .int .u8 0, .int .u8 0, .int .u8 0, .int .u8 0, .int .u8 0, .int .u8 0, .int .u8 0, .int .u8 0] 213)).heap.size, 3, none⟩ = some (.int .u8 (c3.toNat : Int)) := HCE.out 3 (by show 3 < 13; omega)
 have k4 : W1.cell? ⟨(w.alloc (.cells #[.int .u8 0, .int .u8 0, .int .u8 0, .int .u8 0, .int .u8 0, .int .u8 0, .int .u8 0, .int .u8 0, .int .u8 0, .int .u8 0, .int .u8 0, .int .u8 0, .int .u8 0] 213)).heap.size, 4, none⟩ = some (.int .u8 (c4.toNat : Int)) := HCE.out 4 (by show 4 < 13; omega)
 have k5 : W1.cell? ⟨(w.alloc (.cells #[.int .u8 0, .int .u8 0, .int .u8 0, .int .u8 0, .int .u8 0, .int .u8 0, .int .u8 0, .int .u8 0, .int .u8 0, .int .u8 0, .int .u8 0, .int .u8 0, .int .u8 0] 213)).heap.size, 5, none⟩ = some (.int .u8 (c5.toNat : Int)) := HCE.out 5 (by show 5 < 13; omega)
 have k6 : W1.cell? ⟨(w.alloc (.cells #[.int .u8 0, .int .u8 0, .int .u8 0, .int .u8 0, .int .u8 0, .int .u8 0, .int .u8 0, .int .u8 0, .int .u8 0, .int .u8 0, .int .u8 0, .int .u8 0, .int .u8 0] 213)).heap.size, 6, none⟩ = some (.int .u8 (c6.toNat : Int)) := HCE.out 6 (by show 6 < 13; omega)
 have k7 : W1.cell? ⟨(w.alloc (.cells #[.int .u8 0, .int .u8 0, .int .u8 0, .int .u8 0, .int .u8 0, .int .u8 0, .int .u8 0, .int .u8 0, .int .u8 0, .int .u8 0, .int .u8 0, .int .u8 0, .int .u8 0] 213)).heap.size, 7, none⟩ = some (.int .u8 (c7.toNat : Int)) := HCE.out 7 (by show 7 < 13; omega)
 have k8 : W1.cell? ⟨(w.alloc (.cells #[.int .u8 0, .int .u8 0, .int .u8 0, .int .u8 0, .int .u8 0, .int .u8 0, .int .u8 0, .int .u8 0, .int .u8 0, .int .u8 0, .int .u8 0, .int .u8 0, .int .u8 0] 213)).heap.size, 8, none⟩ = some (.int .u8 (c8.toNat : Int)) := HCE.out 8 (by show 8 < 13; omega)
 have k9 : W1.cell? ⟨(w.alloc (.cells #[.int .u8 0, .int .u8 0, .int .u8 0, .int .u8 0, .int .u8 0, .int .u8 0, .int .u8 0, .int .u8 0, .int .u8 0, .int .u8 0, .int .u8 0, .int .u8 0, .int .u8 0] 213)).heap.size, 9, none⟩ = some (.int .u8 (c9.toNat : Int)) := HCE.out 9 (by show 9 < 13; omega)
 have k10 : W1.cell? ⟨(w.alloc (.cells #[.int .u8 0, .int .u8 0, .int .u8 0, .int .u8 0, .int .u8 0, .int .u8 0, .int .u8 0, .int .u8 0, .int .u8 0, .int .u8 0, .int .u8 0, .int .u8 0, .int .u8 0] 213)).heap.size, 10, none⟩ = some (.int .u8 (c10.toNat : Int)) := HCE.out 10 (by show 10 < 13; omega)
 have k11 : W1.cell? ⟨(w.alloc (.cells #[.int .u8 0, .int .u8 0, .int .u8 0, .int .u8 0, .int .u8 0, .int .u8 0, .int .u8 0, .int .u8 0, .int .u8 0, .int .u8 0, .int .u8 0, .int .u8 0, .int .u8 0] 213)).heap.size, 11, none⟩ = some (.int .u8 (c11.toNat : Int)) := HCE.out 11 (by show 11 < 13; omega)
 have k12 : W1.cell? ⟨(w.alloc (.cells #[.int .u8 0, .int .u8 0, .int .u8 0, .int .u8 0, .int .u8 0, .int .u8 0, .int .u8 0, .int .u8 0, .int .u8 0, .int .u8 0, .int .u8 0, .int .u8 0, .int .u8 0] 213)).heap.size, 12, none⟩ = some (.int .u8 (c12.toNat : Int)) := HCE.out 12 (by show 12 < 13; omega)
 have hB : Below w.heap.size w W1 := ((Below.refl _ _).alloc (Nat.le_refl _) _).trans (hcr.below.mono (by simp))
 have hle : 13 ≤ cap := hcr.le
 have z0 : W1.cell? ⟨w.heap.size, 0, none⟩ = some (.int .u8 0) := (hcr.below.cell (p := ⟨w.heap.size, 0, none⟩) (by simp)).trans (by simp [go_sem])
 have z1 : W1.cell? ⟨w.heap.size, 1, none⟩ = some (.int .u8 0) := (hcr.below.cell (p := ⟨w.heap.size, 1, none⟩) (by simp)).trans (by simp [go_sem])
 have z2 : W1.cell? ⟨w.heap.size, 2, none⟩ = some (.int .u8 0) := (hcr.below.cell (p := ⟨w.heap.size, 2, none⟩) (by simp)).trans (by simp [go_sem])
 have z3 : W1.cell? ⟨w.heap.size, 3, none⟩ = some (.int .u8 0) := (hcr.below.cell (p := ⟨w.heap.size, 3, none⟩) (by simp)).trans (by simp [go_sem])
 have z4 : W1.cell? ⟨w.heap.size, 4, none⟩ = some (.int .u8 0) := (hcr.below.cell (p := ⟨w.heap.size, 4, none⟩) (by simp)).trans (by simp [go_sem])
 have z5 : W1.cell? ⟨w.heap.size, 5, none⟩ = some (.int .u8 0) := (hcr.below.cell (p := ⟨w.heap.size, 5, none⟩) (by simp)).trans (by simp [go_sem])
 have z6 : W1.cell? ⟨w.heap.size, 6, none⟩ = some (.int .u8 0) := (hcr.below.cell (p := ⟨w.heap.size, 6, none⟩) (by simp)).trans (by simp [go_sem])
 have z7 : W1.cell? ⟨w.heap.size, 7, none⟩ = some (.int .u8 0) := (hcr.below.cell (p := ⟨w.heap.size, 7, none⟩) (by simp)).trans (by simp [go_sem])
 have z8 : W1.cell? ⟨w.heap.size, 8, none⟩ = some (.int .u8 0) := (hcr.below.cell (p := ⟨w.heap.size, 8, none⟩) (by simp)).trans (by simp [go_sem])
 have z9 : W1.cell? ⟨w.heap.size, 9, none⟩ = some (.int .u8 0) := (hcr.below.cell (p := ⟨w.heap.size, 9, none⟩) (by simp)).trans (by simp [go_sem])
 have z10 : W1.cell? ⟨w.heap.size, 10, none⟩ = some (.int .u8 0) := (hcr.below.cell (p := ⟨w.heap.size, 10, none⟩) (by simp)).trans (by simp [go_sem])
 have z11 : W1.cell? ⟨w.heap.size, 11, none⟩ = some (.int .u8 0) := (hcr.below.cell (p := ⟨w.heap.size, 11, none⟩) (by simp)).trans (by simp [go_sem])
 have z12 : W1.cell? ⟨w.heap.size, 12, none⟩ = some (.int .u8 0) := (hcr.below.cell (p := ⟨w.heap.size, 12, none⟩) (by simp)).trans (by simp [go_sem])
 have zf : ∀ o, W1.frozen? ⟨w.heap.size, o, none⟩ = false := fun o => (hcr.below.frozen (p := ⟨w.heap.size, o, none⟩) (by simp)).trans (by simp [go_sem])
 rw [World.size_alloc] at hcv k0 k1 k2 k3 k4 k5 k6 k7 k8 k9 k10 k11 k12
 have hat := fun (b cap : Nat) (W : World) => arr_at b cap W
 clear hcr hz HCE
 go_enter Tryz.func173, Tryz.ntmps173
 go_wp2
 obtain ⟨q0, q1, q2, q3, q4, q5, q6, q7, q8, q9, q10, q11, q12⟩ := set13 W1 w.heap.size (.int .u8 0) (.int .u8 (c0.toNat : Int)) (.int .u8 (c1.toNat : Int)) (.int .u8 (c2.toNat : Int)) (.int .u8 (c3.toNat : Int)) (.int .u8 (c4.toNat : Int)) (.int .u8 (c5.toNat : Int)) (.int .u8 (c6.toNat : Int)) (.int .u8 (c7.toNat : Int)) (.int .u8 (c8.toNat : Int)) (.int .u8 (c9.toNat : Int)) (.int .u8 (c10.toNat : Int)) (.int .u8 (c11.toNat : Int)) (.int .u8 (c12.toNat : Int)) z0 z1 z2 z3 z4 z5 z6 z7 z8 z9 z10 z11 z12
 refine bodyPost_ret (v := .tuple #[.agg #[.int .u8 (c0.toNat : Int), .int .u8 (c1.toNat : Int), .int .u8 (c2.toNat : Int), .int .u8 (c3.toNat : Int), .int .u8 (c4.toNat : Int), .int .u8 (c5.toNat : Int), .int .u8 (c6.toNat : Int), .int .u8 (c7.toNat : Int), .int .u8 (c8.toNat : Int), .int .u8 (c9.toNat : Int), .int .u8 (c10.toNat : Int), .int .u8 (c11.toNat : Int), .int .u8 (c12.toNat : Int)], .bool true]) (by simp [results, Tryz.results173, go_sem, q0, q1, q2, q3, q4, q5, q6, q7, q8, q9, q10, q11, q12]) rfl ⟨rfl, ?_⟩
 exact ((((((((((((hB.setCell (Nat.le_refl _) _).setCell (Nat.le_refl _) _).setCell (Nat.le_refl _) _).setCell (Nat.le_refl _) _).setCell (Nat.le_refl _) _).setCell (Nat.le_refl _) _).setCell (Nat.le_refl _) _).setCell (Nat.le_refl _) _).setCell (Nat.le_refl _) _).setCell (Nat.le_refl _) _).setCell (Nat.le_refl _) _).setCell (Nat.le_refl _) _).setCell (Nat.le_refl _) _
end Go.Proofs.YthbgpfjbfkiljaaGreatDoor.so

set_option linter.unusedVariables false
set_option linter.unusedSimpArgs false
set_option maxRecDepth 100000
set_option maxHeartbeats 16000000
namespace Go.Proofs.YthbgpfjbfkiljaaGreatDoor.so
open Go.ChangeShapes Go.WideShapes Go.ChangeAt Go.RowKit Go.Deep Go.Shelf
def ssB (a b : ByteArray) : Bool := decide (a.size = 13) && decide (a = b)
theorem thirteen {a : ByteArray} (h : a.size = 13) : ∃ c0 c1 c2 c3 c4 c5 c6 c7 c8 c9 c10 c11 c12, a = ⟨#[c0, c1, c2, c3, c4, c5, c6, c7, c8, c9, c10, c11, c12]⟩ := by
 obtain ⟨⟨l⟩⟩ := a
 match l, h with
 | [c0, c1, c2, c3, c4, c5, c6, c7, c8, c9, c10, c11, c12], _ => exact ⟨c0, c1, c2, c3, c4, c5, c6, c7, c8, c9, c10, c11, c12, rfl⟩
theorem stamp_any (s : ByteArray) (hs : s.size ≤ 1048576) (w : World) :
  Calls Tryz.prog 173 #[.string s] w fun e w' => (∃ y0 y1 y2 y3 y4 y5 y6 y7 y8 y9 y10 y11 y12 : Int, e = .returned (.tuple #[.agg #[.int .u8 y0, .int .u8 y1, .int .u8 y2, .int .u8 y3, .int .u8 y4, .int .u8 y5, .int .u8 y6, .int .u8 y7, .int .u8 y8, .int .u8 y9, .int .u8 y10, .int .u8 y11, .int .u8 y12], .bool (decide (s.size = 13))]) ∧ (s.size = 13 → ∃ c0 c1 c2 c3 c4 c5 c6 c7 c8 c9 c10 c11 c12 : UInt8, s = ⟨#[c0, c1, c2, c3, c4, c5, c6, c7, c8, c9, c10, c11, c12]⟩ ∧ y0 = (c0.toNat : Int) ∧ y1 = (c1.toNat : Int) ∧ y2 = (c2.toNat : Int) ∧ y3 = (c3.toNat : Int) ∧ y4 = (c4.toNat : Int) ∧ y5 = (c5.toNat : Int) ∧ y6 = (c6.toNat : Int) ∧ y7 = (c7.toNat : Int) ∧ y8 = (c8.toNat : Int) ∧ y9 = (c9.toNat : Int) ∧ y10 = (c10.toNat : Int) ∧ y11 = (c11.toNat : Int) ∧ y12 = (c12.toNat : Int))) ∧ Below w.heap.size w w' := by
 by_cases h : s.size = 13
 ·obtain ⟨c0, c1, c2, c3, c4, c5, c6, c7, c8, c9, c10, c11, c12, rfl⟩ := thirteen h
  exact (stamp_yes c0 c1 c2 c3 c4 c5 c6 c7 c8 c9 c10 c11 c12 w).mono fun e w' ⟨h1, h2⟩ => ⟨⟨(c0.toNat : Int), (c1.toNat : Int), (c2.toNat : Int), (c3.toNat : Int), (c4.toNat : Int), (c5.toNat : Int), (c6.toNat : Int), (c7.toNat : Int), (c8.toNat : Int), (c9.toNat : Int), (c10.toNat : Int), (c11.toNat : Int), (c12.toNat : Int), h1.trans (by rw [decide_eq_true h]), fun _ => ⟨c0, c1, c2, c3, c4, c5, c6, c7, c8, c9, c10, c11, c12, rfl, rfl, rfl, rfl, rfl, rfl, rfl, rfl, rfl, rfl, rfl, rfl, rfl, rfl⟩⟩, h2⟩
 ·exact (stamp_no s hs h w).mono fun e w' ⟨h1, h2⟩ => ⟨⟨0, 0, 0, 0, 0, 0, 0, 0, 0, 0, 0, 0, 0, h1.trans (by rw [decide_eq_false h]), fun e => absurd e h⟩, h2⟩
theorem eq13 (c0 c1 c2 c3 c4 c5 c6 c7 c8 c9 c10 c11 c12 d0 d1 d2 d3 d4 d5 d6 d7 d8 d9 d10 d11 d12 : UInt8) (W : World) : (Op.equalIn 10000 213 (.agg #[.int .u8 (c0.toNat : Int), .int .u8 (c1.toNat : Int), .int .u8 (c2.toNat : Int), .int .u8 (c3.toNat : Int), .int .u8 (c4.toNat : Int), .int .u8 (c5.toNat : Int), .int .u8 (c6.toNat : Int), .int .u8 (c7.toNat : Int), .int .u8 (c8.toNat : Int), .int .u8 (c9.toNat : Int), .int .u8 (c10.toNat : Int), .int .u8 (c11.toNat : Int), .int .u8 (c12.toNat : Int)]) (.agg #[.int .u8 (d0.toNat : Int), .int .u8 (d1.toNat : Int), .int .u8 (d2.toNat : Int), .int .u8 (d3.toNat : Int), .int .u8 (d4.toNat : Int), .int .u8 (d5.toNat : Int), .int .u8 (d6.toNat : Int), .int .u8 (d7.toNat : Int), .int .u8 (d8.toNat : Int), .int .u8 (d9.toNat : Int), .int .u8 (d10.toNat : Int), .int .u8 (d11.toNat : Int), .int .u8 (d12.toNat : Int)])).run Tryz.prog W = .ok (ssB ⟨#[c0, c1, c2, c3, c4, c5, c6, c7, c8, c9, c10, c11, c12]⟩ ⟨#[d0, d1, d2, d3, d4, d5, d6, d7, d8, d9, d10, d11, d12]⟩) W := by
 have h := run_equalIn_bytes (P := Tryz.prog) W 9998 213 5 13 Tryz.underlying213 Tryz.underlying5 (fun W => by obtain ⟨i0, hi, _, hz1, _⟩ := info_parts cl.info5; exact (run_sizeOf W hi).trans (by rw [show Tryz.prog.cellsOf 5 = 1 by kernel_rfl])) [c0, c1, c2, c3, c4, c5, c6, c7, c8, c9, c10, c11, c12] [d0, d1, d2, d3, d4, d5, d6, d7, d8, d9, d10, d11, d12] rfl rfl
 have e : ssB ⟨#[c0, c1, c2, c3, c4, c5, c6, c7, c8, c9, c10, c11, c12]⟩ ⟨#[d0, d1, d2, d3, d4, d5, d6, d7, d8, d9, d10, d11, d12]⟩ = ([c0, c1, c2, c3, c4, c5, c6, c7, c8, c9, c10, c11, c12] == [d0, d1, d2, d3, d4, d5, d6, d7, d8, d9, d10, d11, d12]) := by
  rw [Bool.eq_iff_iff]
  unfold ssB
  have h13 : (⟨#[c0, c1, c2, c3, c4, c5, c6, c7, c8, c9, c10, c11, c12]⟩ : ByteArray).size = 13 := rfl
  rw [h13]
  simp
 rw [e]
 exact h
theorem same_any (a b : ByteArray) (ha : a.size ≤ 1048576) (hb : b.size ≤ 1048576) (w : World) :
  Calls Tryz.prog 152 #[.string a, .string b] w fun e w' => e = .returned (.bool (ssB a b)) ∧ Below w.heap.size w w' := by
 have HA : Hid (∀ s : ByteArray, s.size ≤ 1048576 → ∀ W : World, Calls Tryz.prog 173 #[.string s] W fun e w' => (∃ y0 y1 y2 y3 y4 y5 y6 y7 y8 y9 y10 y11 y12 : Int, e = .returned (.tuple #[.agg #[.int .u8 y0, .int .u8 y1, .int .u8 y2, .int .u8 y3, .int .u8 y4, .int .u8 y5, .int .u8 y6, .int .u8 y7, .int .u8 y8, .int .u8 y9, .int .u8 y10, .int .u8 y11, .int .u8 y12], .bool (decide (s.size = 13))]) ∧ (s.size = 13 → ∃ c0 c1 c2 c3 c4 c5 c6 c7 c8 c9 c10 c11 c12 : UInt8, s = ⟨#[c0, c1, c2, c3, c4, c5, c6, c7, c8, c9, c10, c11, c12]⟩ ∧ y0 = (c0.toNat : Int) ∧ y1 = (c1.toNat : Int) ∧ y2 = (c2.toNat : Int) ∧ y3 = (c3.toNat : Int) ∧ y4 = (c4.toNat : Int) ∧ y5 = (c5.toNat : Int) ∧ y6 = (c6.toNat : Int) ∧ y7 = (c7.toNat : Int) ∧ y8 = (c8.toNat : Int) ∧ y9 = (c9.toNat : Int) ∧ y10 = (c10.toNat : Int) ∧ y11 = (c11.toNat : Int) ∧ y12 = (c12.toNat : Int))) ∧ Below W.heap.size W w') := fun s hs W => stamp_any s hs W
 go_enter Tryz.func152, Tryz.ntmps152
 go_wp2_with (go_at_call 173; refine (HA.out a ha _).mono ?_; rintro e w1 ⟨⟨y0, y1, y2, y3, y4, y5, y6, y7, y8, y9, y10, y11, y12, rfl, hy⟩, hl1⟩; refine Hid.out ?_)
 refine Lib.hid ?_
 have HY := Lib.hid hy
 clear hy
 obtain ⟨qa, hqa⟩ : ∃ q, decide (a.size = 13) = q := ⟨_, rfl⟩
 have HQA : Hid (decide (a.size = 13) = qa) := hqa
 rw [hqa]
 clear hqa
 go_wp2_with (go_at_call 173; refine (HA.out b hb _).mono ?_; rintro e w2 ⟨⟨x0, x1, x2, x3, x4, x5, x6, x7, x8, x9, x10, x11, x12, rfl, hx⟩, hl2⟩; refine Hid.out ?_)
 refine Lib.hid ?_
 have HX := Lib.hid hx
 clear hx
 obtain ⟨qb, hqb⟩ : ∃ q, decide (b.size = 13) = q := ⟨_, rfl⟩
 have HQB : Hid (decide (b.size = 13) = qb) := hqb
 rw [hqb]
 clear hqb
 have q0 : w2.cell? ⟨w1.heap.size, 0, none⟩ = some (.int .u8 y0) := (hl2.cell (p := ⟨w1.heap.size, 0, none⟩) (by simp)).trans (by simp [go_sem])
 have q1 : w2.cell? ⟨w1.heap.size, 1, none⟩ = some (.int .u8 y1) := (hl2.cell (p := ⟨w1.heap.size, 1, none⟩) (by simp)).trans (by simp [go_sem])
 have q2 : w2.cell? ⟨w1.heap.size, 2, none⟩ = some (.int .u8 y2) := (hl2.cell (p := ⟨w1.heap.size, 2, none⟩) (by simp)).trans (by simp [go_sem])
 have q3 : w2.cell? ⟨w1.heap.size, 3, none⟩ = some (.int .u8 y3) := (hl2.cell (p := ⟨w1.heap.size, 3, none⟩) (by simp)).trans (by simp [go_sem])
 have q4 : w2.cell? ⟨w1.heap.size, 4, none⟩ = some (.int .u8 y4) := (hl2.cell (p := ⟨w1.heap.size, 4, none⟩) (by simp)).trans (by simp [go_sem])
 have q5 : w2.cell? ⟨w1.heap.size, 5, none⟩ = some (.int .u8 y5) := (hl2.cell (p := ⟨w1.heap.size, 5, none⟩) (by simp)).trans (by simp [go_sem])
 have q6 : w2.cell? ⟨w1.heap.size, 6, none⟩ = some (.int .u8 y6) := (hl2.cell (p := ⟨w1.heap.size, 6, none⟩) (by simp)).trans (by simp [go_sem])
 have q7 : w2.cell? ⟨w1.heap.size, 7, none⟩ = some (.int .u8 y7) := (hl2.cell (p := ⟨w1.heap.size, 7, none⟩) (by simp)).trans (by simp [go_sem])
 have q8 : w2.cell? ⟨w1.heap.size, 8, none⟩ = some (.int .u8 y8) := (hl2.cell (p := ⟨w1.heap.size, 8, none⟩) (by simp)).trans (by simp [go_sem])
 have q9 : w2.cell? ⟨w1.heap.size, 9, none⟩ = some (.int .u8 y9) := (hl2.cell (p := ⟨w1.heap.size, 9, none⟩) (by simp)).trans (by simp [go_sem])
 have q10 : w2.cell? ⟨w1.heap.size, 10, none⟩ = some (.int .u8 y10) := (hl2.cell (p := ⟨w1.heap.size, 10, none⟩) (by simp)).trans (by simp [go_sem])
 have q11 : w2.cell? ⟨w1.heap.size, 11, none⟩ = some (.int .u8 y11) := (hl2.cell (p := ⟨w1.heap.size, 11, none⟩) (by simp)).trans (by simp [go_sem])
 have q12 : w2.cell? ⟨w1.heap.size, 12, none⟩ = some (.int .u8 y12) := (hl2.cell (p := ⟨w1.heap.size, 12, none⟩) (by simp)).trans (by simp [go_sem])
 have hlt : w1.heap.size < w2.heap.size := World.block_lt_of_cell? _ _ q0
 have hln : ¬ w2.heap.size = w1.heap.size := by omega
 have hln' : ¬ w1.heap.size = w2.heap.size := by omega
 have HB2 : Hid (Below w.heap.size w w2) := (hl1.alloc hl1.size _).trans (hl2.mono (Nat.le_trans hl1.size (by simp)))
 clear hl1 hl2
 cases qa with
 | false =>
  have HE : Hid (ssB a b = false) := by show _ = _; unfold ssB; rw [HQA.out]; rfl
  go_wp2
  go_ret
  exact ⟨by rw [HE.out]; rfl, HB2.out.alloc HB2.out.size _⟩
 | true =>
  cases qb with
  | false =>
   have HE : Hid (ssB a b = false) := by
    show _ = _
    unfold ssB
    rw [HQA.out, Bool.true_and]
    refine decide_eq_false fun e => ?_
    rw [e, HQB.out] at HQA
    exact absurd HQA.out (by simp)
   go_wp2
   go_ret
   exact ⟨by rw [HE.out]; rfl, HB2.out.alloc HB2.out.size _⟩
  | true =>
   have heq : ∀ W, (Op.equalIn 10000 213 (.agg #[.int .u8 y0, .int .u8 y1, .int .u8 y2, .int .u8 y3, .int .u8 y4, .int .u8 y5, .int .u8 y6, .int .u8 y7, .int .u8 y8, .int .u8 y9, .int .u8 y10, .int .u8 y11, .int .u8 y12]) (.agg #[.int .u8 x0, .int .u8 x1, .int .u8 x2, .int .u8 x3, .int .u8 x4, .int .u8 x5, .int .u8 x6, .int .u8 x7, .int .u8 x8, .int .u8 x9, .int .u8 x10, .int .u8 x11, .int .u8 x12])).run Tryz.prog W = .ok (ssB a b) W := fun W => by
    obtain ⟨c0, c1, c2, c3, c4, c5, c6, c7, c8, c9, c10, c11, c12, rfl, rfl, rfl, rfl, rfl, rfl, rfl, rfl, rfl, rfl, rfl, rfl, rfl, rfl⟩ := HY.out (of_decide_eq_true HQA.out)
    obtain ⟨d0, d1, d2, d3, d4, d5, d6, d7, d8, d9, d10, d11, d12, rfl, rfl, rfl, rfl, rfl, rfl, rfl, rfl, rfl, rfl, rfl, rfl, rfl, rfl⟩ := HX.out (of_decide_eq_true HQB.out)
    exact eq13 c0 c1 c2 c3 c4 c5 c6 c7 c8 c9 c10 c11 c12 d0 d1 d2 d3 d4 d5 d6 d7 d8 d9 d10 d11 d12 W
   clear HY HX HA
   go_wp2
   go_ret
   exact ⟨rfl, HB2.out.alloc HB2.out.size _⟩
end Go.Proofs.YthbgpfjbfkiljaaGreatDoor.so

set_option linter.unusedVariables false
set_option linter.unusedSimpArgs false
set_option maxRecDepth 100000
set_option maxHeartbeats 16000000
namespace Go.Proofs.YthbgpfjbfkiljaaGreatDoor.so
open Go.ChangeShapes Go.WideShapes Go.ChangeAt Go.RowKit Go.Deep Go.Shelf
def eqT (l : List ByteArray) (zs : List (List UInt8)) : Bool := decide (l.map (fun x => x.data.toList) = zs)
theorem eqT_len {l : List ByteArray} {zs : List (List UInt8)} (h : l.length ≠ zs.length) : eqT l zs = false := decide_eq_false fun e => h (by rw [← e]; simp)
theorem eqT_at {l : List ByteArray} {zs : List (List UInt8)} {i : Nat} {x : ByteArray} {z : List UInt8} (hx : l[i]? = some x) (hz : zs[i]? = some z) (h : x.data.toList ≠ z) : eqT l zs = false := decide_eq_false fun e => h (by
 rw [← e, List.getElem?_map, hx] at hz
 exact Option.some.inj hz)
theorem eqT_all {l : List ByteArray} {zs : List (List UInt8)} (hl : l.length = zs.length) (h : ∀ j x z, j < l.length → l[j]? = some x → zs[j]? = some z → x.data.toList = z) : eqT l zs = true := decide_eq_true (by
 apply List.ext_getElem (by simpa using hl)
 intro j h1 h2
 rw [List.getElem_map]
 exact h j _ _ (by simpa using h1) (List.getElem?_eq_getElem (by simpa using h1)) (List.getElem?_eq_getElem h2))
theorem equal_any (a1 : Option Addr) (c1 : Nat) (l : List ByteArray) (zs : List (List UInt8)) (v2 : Value) (w : World) (h1 : ty.SrcS none w a1 l) (hl : l.length ≤ 1048576) (h2 : sr.StrR w v2 zs) :
  Calls Tryz.prog 154 #[.slice a1 l.length c1, v2] w fun e w' => e = .returned (.bool (eqT l zs)) ∧ Below w.heap.size w w' := by
 obtain ⟨b2, o2, cp, rfl, hle, hm, hc2⟩ := h2
 have H1 : Hid (ty.SrcS none w a1 l) := h1
 have H2 := Lib.hid hc2
 by_cases hlen : l.length = zs.length
 ·obtain ⟨n, hn⟩ : ∃ n, l.length = n := ⟨_, rfl⟩
  have HN : Hid (l.length = n) := hn
  have HZ : Hid (zs.length = n) := hlen.symm.trans hn
  have HAL : Hid ((∀ j x z, j < n → l[j]? = some x → zs[j]? = some z → x.data.toList = z) → eqT l zs = true) := fun h => eqT_all hlen (by rw [hn]; exact h)
  rw [← hlen, hn]
  rw [hn] at hl
  obtain ⟨V, hV⟩ : ∃ V, eqT l zs = V := ⟨_, rfl⟩
  have HV : Hid (eqT l zs = V) := hV
  rw [hV]
  clear h1 hc2 hlen hn hV hle hm
  go_enter Tryz.func154, Tryz.ntmps154
  go_wp2
  go_loopw [13] (fun y wr => ∃ k : Nat, k ≤ n ∧ y = .int .i64 (k : Int) ∧ (∀ j x z, j < k → l[j]? = some x → zs[j]? = some z → x.data.toList = z) ∧ Below w.heap.size w wr) (fun y _ => n - (intOf y).toNat)
  case atStart => exact ⟨0, Nat.zero_le _, rfl, fun j x z h => by omega, Below.refl _ _⟩
  case round =>
   obtain ⟨k, hk, rfl, hall, hbel⟩ := hrel
   have HA := Lib.hid hall
   have HBE : Hid (Below w.heap.size w wr) := hbel
   clear hall
   by_cases hkn : k < n
   ·have hkn' : (k : Int) < (n : Int) := by omega
    have hk0 : (0 : Int) ≤ (k : Int) := by omega
    obtain ⟨x, hx⟩ : ∃ x, l[k]? = some x := ⟨_, List.getElem?_eq_getElem (by rw [HN.out]; exact hkn)⟩
    obtain ⟨z, hz⟩ : ∃ z, zs[k]? = some z := ⟨_, List.getElem?_eq_getElem (by rw [HZ.out]; exact hkn)⟩
    rcases H1.out with ⟨_, h⟩ | ⟨b, o, rfl, _, hc⟩
    ·rw [h] at hx; simp at hx
    have g1 := (hbel.cell (p := ⟨b, _, none⟩) (World.block_lt_of_cell? _ _ (hc k x hx))).trans (hc k x hx)
    have g2 := (hbel.cell (p := ⟨b2, _, none⟩) (World.block_lt_of_cell? _ _ (H2.out k z hz))).trans (H2.out k z hz)
    have hst : sr.strL z = .string ⟨z.toArray⟩ := rfl
    rw [hst] at g2
    obtain ⟨s, hs⟩ : ∃ s : ByteArray, (⟨z.toArray⟩ : ByteArray) = s := ⟨_, rfl⟩
    have HS : Hid (s.toList = z) := by show _ = _; rw [← hs, ByteArray.toList_eq]
    rw [hs] at g2
    have HX : Hid (x.toList = x.data.toList) := ByteArray.toList_eq x
    have HLX : Hid (l[k]? = some x ∧ zs[k]? = some z) := ⟨hx, hz⟩
    clear hs hst hx hz hc hbel
    by_cases he : x.toList = s.toList
    ·have heq : (x.toList == s.toList) = true := by rw [he, beq_self_eq_true]
     have HN2 : Hid (∀ j x z, j < k + 1 → l[j]? = some x → zs[j]? = some z → x.data.toList = z) := fun j x' z' hj hx' hz' => by
      rcases Nat.lt_or_ge j k with h | h
      ·exact HA.out j x' z' h hx' hz'
      ·obtain rfl : j = k := by omega
       rw [HLX.out.1] at hx'
       rw [HLX.out.2] at hz'
       cases hx'
       cases hz'
       rw [← HX.out, ← HS.out]
       exact he
     clear he
     go_wp2
     go_quiet (fail)
     go_wp2
     go_roundw
     case rel => exact ⟨k + 1, by omega, by go_num, HN2.out, by first | exact below_drewN HBE.out _ | exact HBE.out.drew | exact HBE.out⟩
     case measure => simp [intOf]; omega
    ·have heq : (x.toList == s.toList) = false := beq_eq_false_iff_ne.2 he
     have HF : Hid (V = false) := by
      show _ = _
      rw [← HV.out]
      exact eqT_at HLX.out.1 HLX.out.2 (by rw [← HX.out, ← HS.out]; exact he)
     go_wp2
     go_quiet (fail)
     go_wp2
     go_ret
     exact ⟨by rw [HF.out]; rfl, by first | exact below_drewN HBE.out _ | exact HBE.out.drew | exact HBE.out⟩
   ·have hkn' : ¬ (k : Int) < (n : Int) := by omega
    obtain rfl : k = n := by omega
    have HT : Hid (V = true) := HV.out.symm.trans (HAL.out HA.out)
    clear hbel
    go_wp2
    go_ret
    exact ⟨by rw [HT.out]; rfl, HBE.out⟩
 ·have hlen' : ¬ (l.length : Int) = (zs.length : Int) := by omega
  rw [eqT_len hlen]
  clear h1 hc2
  go_enter Tryz.func154, Tryz.ntmps154
  go_wp2
  go_ret
  exact ⟨rfl, Below.refl _ _⟩
theorem same_texts (a1 : Option Addr) (c1 : Nat) (l : List ByteArray) (zs : List (List UInt8)) (v2 : Value) (w : World) (h1 : ty.SrcS none w a1 l) (hl : l.length ≤ 1048576) (h2 : sr.StrR w v2 zs) :
  Calls Tryz.prog 113 #[.slice a1 l.length c1, v2] w fun e w' => e = .returned (.bool (eqT l zs)) ∧ Below w.heap.size w w' := by
 obtain ⟨b2, o2, cp, rfl, hle, hm, hc2⟩ := h2
 have H1 : Hid (ty.SrcS none w a1 l) := h1
 have H2 := Lib.hid hc2
 by_cases hlen : l.length = zs.length
 ·obtain ⟨n, hn⟩ : ∃ n, l.length = n := ⟨_, rfl⟩
  have HN : Hid (l.length = n) := hn
  have HZ : Hid (zs.length = n) := hlen.symm.trans hn
  have HAL : Hid ((∀ j x z, j < n → l[j]? = some x → zs[j]? = some z → x.data.toList = z) → eqT l zs = true) := fun h => eqT_all hlen (by rw [hn]; exact h)
  rw [← hlen, hn]
  rw [hn] at hl
  obtain ⟨V, hV⟩ : ∃ V, eqT l zs = V := ⟨_, rfl⟩
  have HV : Hid (eqT l zs = V) := hV
  rw [hV]
  clear h1 hc2 hlen hn hV hle hm
  go_enter Tryz.func113, Tryz.ntmps113
  go_wp2
  go_loopw [5] (fun y wr => ∃ k : Nat, k ≤ n ∧ y = .int .i64 (k : Int) ∧ (∀ j x z, j < k → l[j]? = some x → zs[j]? = some z → x.data.toList = z) ∧ Below w.heap.size w wr) (fun y _ => n - (intOf y).toNat)
  case atStart => exact ⟨0, Nat.zero_le _, rfl, fun j x z h => by omega, Below.refl _ _⟩
  case round =>
   obtain ⟨k, hk, rfl, hall, hbel⟩ := hrel
   have HA := Lib.hid hall
   have HBE : Hid (Below w.heap.size w wr) := hbel
   clear hall
   by_cases hkn : k < n
   ·have hkn' : (k : Int) < (n : Int) := by omega
    have hk0 : (0 : Int) ≤ (k : Int) := by omega
    obtain ⟨x, hx⟩ : ∃ x, l[k]? = some x := ⟨_, List.getElem?_eq_getElem (by rw [HN.out]; exact hkn)⟩
    obtain ⟨z, hz⟩ : ∃ z, zs[k]? = some z := ⟨_, List.getElem?_eq_getElem (by rw [HZ.out]; exact hkn)⟩
    rcases H1.out with ⟨_, h⟩ | ⟨b, o, rfl, _, hc⟩
    ·rw [h] at hx; simp at hx
    have g1 := (hbel.cell (p := ⟨b, _, none⟩) (World.block_lt_of_cell? _ _ (hc k x hx))).trans (hc k x hx)
    have g2 := (hbel.cell (p := ⟨b2, _, none⟩) (World.block_lt_of_cell? _ _ (H2.out k z hz))).trans (H2.out k z hz)
    have hst : sr.strL z = .string ⟨z.toArray⟩ := rfl
    rw [hst] at g2
    obtain ⟨s, hs⟩ : ∃ s : ByteArray, (⟨z.toArray⟩ : ByteArray) = s := ⟨_, rfl⟩
    have HS : Hid (s.toList = z) := by show _ = _; rw [← hs, ByteArray.toList_eq]
    rw [hs] at g2
    have HX : Hid (x.toList = x.data.toList) := ByteArray.toList_eq x
    have HLX : Hid (l[k]? = some x ∧ zs[k]? = some z) := ⟨hx, hz⟩
    clear hs hst hx hz hc hbel
    by_cases he : x.toList = s.toList
    ·have heq : (x.toList == s.toList) = true := by rw [he, beq_self_eq_true]
     have HN2 : Hid (∀ j x z, j < k + 1 → l[j]? = some x → zs[j]? = some z → x.data.toList = z) := fun j x' z' hj hx' hz' => by
      rcases Nat.lt_or_ge j k with h | h
      ·exact HA.out j x' z' h hx' hz'
      ·obtain rfl : j = k := by omega
       rw [HLX.out.1] at hx'
       rw [HLX.out.2] at hz'
       cases hx'
       cases hz'
       rw [← HX.out, ← HS.out]
       exact he
     clear he
     go_wp2
     go_quiet (fail)
     go_wp2
     go_roundw
     case rel => exact ⟨k + 1, by omega, by go_num, HN2.out, by first | exact below_drewN HBE.out _ | exact HBE.out.drew | exact HBE.out⟩
     case measure => simp [intOf]; omega
    ·have heq : (x.toList == s.toList) = false := beq_eq_false_iff_ne.2 he
     have HF : Hid (V = false) := by
      show _ = _
      rw [← HV.out]
      exact eqT_at HLX.out.1 HLX.out.2 (by rw [← HX.out, ← HS.out]; exact he)
     go_wp2
     go_quiet (fail)
     go_wp2
     go_ret
     exact ⟨by rw [HF.out]; rfl, by first | exact below_drewN HBE.out _ | exact HBE.out.drew | exact HBE.out⟩
   ·have hkn' : ¬ (k : Int) < (n : Int) := by omega
    obtain rfl : k = n := by omega
    have HT : Hid (V = true) := HV.out.symm.trans (HAL.out HA.out)
    clear hbel
    go_wp2
    go_ret
    exact ⟨by rw [HT.out]; rfl, HBE.out⟩
 ·have hlen' : ¬ (l.length : Int) = (zs.length : Int) := by omega
  rw [eqT_len hlen]
  clear h1 hc2
  go_enter Tryz.func113, Tryz.ntmps113
  go_wp2
  go_ret
  exact ⟨rfl, Below.refl _ _⟩
end Go.Proofs.YthbgpfjbfkiljaaGreatDoor.so

set_option linter.unusedVariables false
set_option linter.unusedSimpArgs false
set_option maxRecDepth 100000
set_option maxHeartbeats 16000000
namespace Go.Proofs.YthbgpfjbfkiljaaGreatDoor.so
open Go.ChangeShapes Go.WideShapes Go.ChangeAt Go.RowKit Go.Deep Go.Shelf
theorem spaths_any (a : Option Addr) (cap : Nat) (ps : List ty.It) (w : World) (hb : ty.SrcIt none w a ps) (hn : ps.length ≤ 1000000) :
  Calls Tryz.prog 75 #[.slice a ps.length cap] w fun e w' => (∃ v, e = .returned v ∧ sr.OwnS w.heap.size w' v (pths ps)) ∧ Below w.heap.size w w' := by
 have HB : Hid (ty.SrcIt none w a ps) := hb
 obtain ⟨n, hnn⟩ : ∃ n, ps.length = n := ⟨_, rfl⟩
 have HN : Hid (ps.length = n) := hnn
 rw [hnn] at hn ⊢
 clear hb hnn
 go_enter Tryz.func75, Tryz.ntmps75
 go_wp2
 go_loopw [3, 4] (fun v y wr => ∃ i : Nat, i ≤ n ∧ y = .int .i64 (i : Int) ∧ sr.OwnS w.heap.size wr v (pths (ps.take i)) ∧ Below w.heap.size w wr) (fun _ y _ => n - (intOf y).toNat)
 case atStart => exact ⟨0, Nat.zero_le _, rfl, by rw [List.take_zero]; exact rf.nil_row w, (Below.refl _ _).alloc (Nat.le_refl _) _⟩
 case round =>
  obtain ⟨i, hi, rfl, hrow, hbel⟩ := hrel
  have HBE : Hid (Below w.heap.size w wr) := hbel
  by_cases hil : i < n
  ·have hil' : (i : Int) < (n : Int) := by omega
   have hi0 : (0 : Int) ≤ (i : Int) := by omega
   obtain ⟨x, hx⟩ : ∃ x, ps[i]? = some x := ⟨_, List.getElem?_eq_getElem (by rw [HN.out]; exact hil)⟩
   rcases HB.out with ⟨_, h⟩ | ⟨b, o, rfl, _, hc⟩
   ·rw [h] at hx; simp at hx
   obtain ⟨a2, c2, a4, c4, g0, g1, g2, g3, g4, s2, s4⟩ := (hc i x hx).below hbel
   have HNX := Lib.hid (pths_take hx)
   have hfl : (pths (ps.take i)).length + 1 ≤ 1000000 := by rw [pths_len, List.length_take]; omega
   obtain ⟨zs, hzs⟩ : ∃ zs, pths (ps.take i) = zs := ⟨_, rfl⟩
   rw [hzs] at hrow HNX hfl
   have HOK : Hid (u3 ≠ .slice none 0 0) := hrow.2
   generalize x.fRefs.length = m2 at *
   generalize x.fTree.length = m4 at *
   obtain ⟨P, hP⟩ : ∃ P, x.fPath = P := ⟨_, rfl⟩
   generalize x.fSum = q1 at *
   generalize x.fFrom = q3 at *
   rw [hP] at g0 HNX
   have HO3 : Hid (∀ ob, (wr.alloc ob).ownsRow w.heap.size 9 1 u3 zs.length (zs.map sr.strL)) := fun ob => hrow.1.alloc _
   have HNE : Hid (∀ j u, ([P.data.toList].map sr.strL)[j]? = some u → (wr.alloc (.cells #[.string P] 9)).cell? ((⟨wr.heap.size, 0, none⟩ : Addr).add j) = some u) := by
    have := sr.one_at wr P.data.toList
    rw [sr.strL_of] at this
    exact this
   have HS3 : Hid (∀ ob, w.heap.size ≤ (wr.alloc ob).heap.size) := fun ob => by rw [World.size_alloc]; exact Nat.le_trans HBE.out.size (by omega)
   clear hc hx s2 s4 hzs hrow hbel hP
   go_wp2_with (first
    | (at_builtin; refine sr.app_str _ rfl _ _ rfl w.heap.size u3 zs rfl (HO3.out _) HOK.out ⟨wr.heap.size, 0, none⟩ 1 1 [P.data.toList] rfl rfl HNE.out (by omega) (HS3.out _) ?_; intro v4 w4 hown4 hv4 hg4; refine Hid.out ?_)
    | go_in)
   refine Lib.hid ?_
   have HB4 : Hid (Below w.heap.size w w4) := (HBE.out.alloc HBE.out.size _).grown hg4 (HS3.out _) (fun k hk => ((HO3.out (.map #[] 0)).lt k hk).1)
   have HO4 : Hid (sr.OwnS w.heap.size w4 v4 (pths (ps.take (i + 1)))) := by
    show sr.OwnS _ _ _ _
    rw [HNX.out]
    exact ⟨hown4, hv4⟩
   clear hown4 hv4 hg4
   go_wp2
   go_roundw
   case rel => exact ⟨i + 1, by omega, by go_num, HO4.out, HB4.out⟩
   case measure => simp [intOf]; omega
  ·have hil' : ¬ (i : Int) < (n : Int) := by omega
   obtain rfl : i = n := by omega
   have HE : Hid (sr.OwnS w.heap.size wr u3 (pths ps)) := by
    have := hrow
    rwa [List.take_of_length_le (by rw [HN.out]; exact Nat.le_refl _)] at this
   clear hrow hbel
   go_wp2
   go_ret
   exact ⟨⟨_, rfl, HE.out⟩, HBE.out⟩
end Go.Proofs.YthbgpfjbfkiljaaGreatDoor.so
