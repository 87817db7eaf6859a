import Derived.Test.YtcpmgellfaeejaaGreatDoorH02
import Derived.Test.YtcpmgellfaeejaaGreatDoorH01
import Derived.Deep.DeepAppendRoom
import Derived.Shelf.Slices.CompactS
import Derived.Ground.NamesProg
import Derived.Shelf.SlicesE.DeleteFunc
import Derived.Ground.SlgfProg
import Derived.Shelf.Strings.Search3
import Derived.Shelf.Abstract
import Derived.Shelf.RegionOpen
import Derived.Shelf.Strings.SplitShaped
import Derived.Shelf.Strings.Count
import Derived.Shelf.Strings.LastIndex
import Derived.Test.YtcpmgellfaeejaaGreatDoorProg
import Derived.Sort.Walk0
import Derived.Deep.RegionHeld3
import Derived.Deep.AppendLies
import Derived.Lib.SlicesCompact
namespace Go.Proofs.YtcpmgellfaeejaaGreatDoor.sr
open Go.ChangeShapes Go.WideShapes Go.ChangeAt Go.RowKit Go.Deep
set_option linter.unusedVariables false
set_option linter.unusedSimpArgs false
def RdS (w : World) (v : Value) (xs : List (List UInt8)) : Prop := ∃ ad cap, v = .slice ad xs.length cap ∧ ∀ i x, xs[i]? = some x → ∃ bb off, ad = some ⟨bb, off, none⟩ ∧ w.cell? ⟨bb, off + i, none⟩ = some (strL x)
theorem RdS.row {w : World} {v : Value} {xs : List (List UInt8)} (h : StrR w v xs) : RdS w v xs := by
 obtain ⟨bb, off, cap, rfl, _, _, hc⟩ := h
 exact ⟨_, cap, rfl, fun i x hx => ⟨bb, off, rfl, hc i x hx⟩⟩
theorem bel_grownR {B g : Nat} {w w1 w2 : World} (h : Below B w w1) (hg : w1.grownBy w2 (some g)) (hB : B ≤ w1.heap.size) (hb : B ≤ g) : Below B w w2 := h.grown hg hB (fun k hk => by cases hk; exact hb)
theorem made_rowR (w : World) (cap : Nat) (hc : cap ≤ 2000000) : (w.alloc (.cells (madeCells (Value.string ⟨#[]⟩).cells cap) 9)).ownsRow w.heap.size 9 1 (.slice (some ⟨w.heap.size, 0, none⟩) 0 cap) ([] : List (List UInt8)).length (([] : List (List UInt8)).map strL) :=
 World.ownsRow_made w _ cap (Nat.le_refl _) (by unfold maxLen; omega) (by rw [size_madeCells]; simp)
theorem make_runR (n : Nat) (hn : n ≤ 2000000) (w : World) : (Instr.makeSlice 33 (.int .i64 0) (.int .i64 (n : Int))).run Tryz.prog w = .ok (.slice (some ⟨w.heap.size, 0, none⟩) 0 n) (w.alloc (.cells (madeCells (Value.string ⟨#[]⟩).cells n) 9)) := by
 obtain ⟨i, hi, hz, hs, hb⟩ := info_parts info9
 have hr := run_make (P := Tryz.prog) w 33 9 i _ Tryz.underlying33 hi hz .i64 .i64 0 n (by omega) (by omega) (by rw [hb]; omega) (by omega)
 simp only [Int.toNat_natCast, Int.toNat_zero, hs, Nat.mul_one] at hr
 exact hr
set_option maxRecDepth 100000 in
set_option maxHeartbeats 4000000 in
theorem clonedR_any (xs : List (List UInt8)) (hx : ∀ x ∈ xs, x.length ≤ 1048576) (v : Value) (w : World) (hR : RdS w v xs) (hn : xs.length ≤ 1048576) :
  Calls Tryz.prog 85 #[v] w fun e w' => e = .returned (.slice (some ⟨w.heap.size, 0, none⟩) xs.length xs.length) ∧ OwnS w.heap.size w' (.slice (some ⟨w.heap.size, 0, none⟩) xs.length xs.length) xs ∧ Below w.heap.size w w' := by
 obtain ⟨ad, cap, rfl, hc⟩ := hR
 have HC : Hid (∀ i x, xs[i]? = some x → ∃ bb off, ad = some ⟨bb, off, none⟩ ∧ w.cell? ⟨bb, off + i, none⟩ = some (strL x)) := hc
 have HXS : Hid (∀ x ∈ xs, x.length ≤ 1048576) := hx
 obtain ⟨n, hnn⟩ : ∃ n, xs.length = n := ⟨_, rfl⟩
 have HNN : Hid (xs.length = n) := hnn
 rw [hnn] at hn ⊢
 have hmk := make_runR n (by omega)
 have HO0 : Hid ((w.alloc (.cells (madeCells (Value.string ⟨#[]⟩).cells n) 9)).ownsRow w.heap.size 9 1 (.slice (some ⟨w.heap.size, 0, none⟩) 0 n) 0 ((xs.take 0).map strL)) := made_rowR w n (by omega)
 obtain ⟨i9, hi9, hz0, hz1, hz2⟩ := info_parts info9
 clear hnn hc hx
 go_enter Tryz.func85, Tryz.ntmps85
 go_wp2
 clear hmk
 go_loopw [3, 5, 11] (fun v _ x wr => ∃ i : Nat, i ≤ n ∧ x = .int .i64 (i : Int) ∧ v = .slice (some ⟨w.heap.size, 0, none⟩) i n ∧ wr.ownsRow w.heap.size 9 1 (.slice (some ⟨w.heap.size, 0, none⟩) i n) i ((xs.take i).map strL) ∧ Below w.heap.size w wr) (fun _ _ x _ => n - (intOf x).toNat)
 case atStart => exact ⟨0, Nat.zero_le _, rfl, rfl, HO0.out, (Below.refl _ _).alloc (Nat.le_refl _) _⟩
 case round =>
  obtain ⟨i, hi, rfl, rfl, hown, hbel⟩ := hrel
  have HBE : Hid (Below w.heap.size w wr) := hbel
  have HOW : Hid (wr.ownsRow w.heap.size 9 1 (.slice (some ⟨w.heap.size, 0, none⟩) i n) i ((xs.take i).map strL)) := hown
  by_cases hil : i < n
  ·have hil' : (i : Int) < (n : Int) := by omega
   have hi0' : (0 : Int) ≤ (i : Int) := by omega
   obtain ⟨x, hx⟩ : ∃ x, xs[i]? = some x := ⟨_, List.getElem?_eq_getElem (by rw [HNN.out]; exact hil)⟩
   obtain ⟨bb, off, rfl, hcc⟩ := HC.out i x hx
   have c0 := (hbel.cell (p := ⟨bb, _, none⟩) (World.block_lt_of_cell? _ _ hcc)).trans hcc
   clear hcc
   have HNX : Hid ((xs.take (i + 1)).map strL = (xs.take i).map strL ++ [strL x]) := by show _ = _; rw [List.take_add_one, hx]; simp
   have hps := HXS.out x (List.mem_of_getElem? hx)
   have HCL0 : Hid (∀ W : World, Calls Tryz.prog 83 #[.string ⟨x.toArray⟩] W fun e w' => e = .returned (.string ⟨x.toArray⟩) ∧ Below W.heap.size W w') := fun W => cl.clone_any _ W (by show x.toArray.size ≤ _; simp; omega)
   have hst : strL x = .string ⟨x.toArray⟩ := rfl
   rw [hst] at c0 HNX
   obtain ⟨s, hs⟩ : ∃ s : ByteArray, (⟨x.toArray⟩ : ByteArray) = s := ⟨_, rfl⟩
   rw [hs] at c0 HNX HCL0
   clear hs hst hx hps hown hbel
   go_wp2_with (go_at_call 83; refine (HCL0.out _).mono ?_; rintro e w1 ⟨rfl, hb1⟩; refine Hid.out ?_)
   refine Lib.hid ?_
   have hB1 : Below w.heap.size w w1 := HBE.out.trans (hb1.mono HBE.out.size)
   have HO1 : Hid (∀ ob, (w1.alloc ob).ownsRow w.heap.size 9 1 (.slice (some ⟨w.heap.size, 0, none⟩) i n) i ((xs.take i).map strL)) := fun ob => own_below HOW.out (hb1.alloc hb1.size _)
   clear hb1
   go_wp2_with (first
    | (at_builtin; refine wpList_append_own_spare _ rfl _ _ 33 rfl w.heap.size 9 i9 1 Tryz.underlying33 hi9 hz1 w.heap.size i n ((xs.take i).map strL) rfl (HO1.out _) ⟨w1.heap.size, 0, none⟩ 1 1 [.string s] rfl rfl (one_new w1 _ _) (by intro u hu; simp only [List.mem_singleton] at hu; subst hu; rfl) (by omega) ?_; intro w4 hown4 hg4; refine Hid.out ?_)
    | go_in)
   refine Lib.hid ?_
   have HB4 : Hid (Below w.heap.size w w4) := bel_grownR (hB1.alloc hB1.size _) hg4 (Nat.le_trans hB1.size (by rw [World.size_alloc]; omega)) (Nat.le_refl _)
   have HO4 : Hid (w4.ownsRow w.heap.size 9 1 (.slice (some ⟨w.heap.size, 0, none⟩) (i + 1) n) (i + 1) ((xs.take (i + 1)).map strL)) := by show World.ownsRow _ _ _ _ _ _ _; rw [HNX.out]; exact hown4
   clear hown4 hg4
   go_wp2
   go_roundw
   case rel => exact ⟨i + 1, by omega, by go_num, rfl, HO4.out, HB4.out⟩
   case measure => simp [intOf]; omega
  ·have hil' : ¬ (i : Int) < (n : Int) := by omega
   obtain rfl : i = n := by omega
   have HE : Hid (OwnS w.heap.size wr (.slice (some ⟨w.heap.size, 0, none⟩) i i) xs) := by
    have h := HOW.out
    rw [List.take_of_length_le (by rw [HNN.out]; exact Nat.le_refl _)] at h
    exact ⟨by rw [HNN.out]; exact h, by intro e; cases e⟩
   clear hown hbel
   go_wp2
   go_ret
   exact ⟨rfl, HE.out, HBE.out⟩
end Go.Proofs.YtcpmgellfaeejaaGreatDoor.sr

namespace Go.Proofs
open Go.Shelf
def YtcpmgellfaeejaaGreatDoor.sr.laysCompact_ren : Go.Shelf.Ren := ⟨fun | 194 => 146 | n => n, fun | 31 => 33 | 9 => 9 | 3 => 3 | 4 => 4 | 0 => 0 | n => n, fun | n => n⟩
theorem YtcpmgellfaeejaaGreatDoor.sr.laysCompact : Go.Proofs.Lays.n194 Tryz.prog YtcpmgellfaeejaaGreatDoor.sr.laysCompact_ren := {
 mixed := by kernel_rfl
 f194 := Tryz.func146.trans (congrArg some (by kernel_rfl))
 t0 := Tryz.underlying0
 a0 := Tryz.isAgg0
 z0 := Tryz.sizeOf0
 v0 := Tryz.zeroValue0
 t3 := Tryz.underlying3
 a3 := Tryz.isAgg3
 z3 := Tryz.sizeOf3
 v3 := Tryz.zeroValue3
 t4 := Tryz.underlying4
 a4 := Tryz.isAgg4
 z4 := Tryz.sizeOf4
 v4 := Tryz.zeroValue4
 t9 := Tryz.underlying9
 a9 := Tryz.isAgg9
 z9 := Tryz.sizeOf9
 v9 := Tryz.zeroValue9
 t31 := Tryz.underlying33
 a31 := Tryz.isAgg33
 z31 := Tryz.sizeOf33
 v31 := Tryz.zeroValue33 }
def YtcpmgellfaeejaaGreatDoor.sr.laysDel_ren : Go.Shelf.Ren := ⟨fun | 10 => 144 | 6 => 80 | n => n, fun | 22 => 33 | 23 => 9 | 25 => 53 | 3 => 3 | 4 => 4 | 0 => 0 | n => n, fun | n => n⟩
theorem YtcpmgellfaeejaaGreatDoor.sr.laysDel : Go.Proofs.SlLaysH.n10 Tryz.prog YtcpmgellfaeejaaGreatDoor.sr.laysDel_ren := {
 mixed := by kernel_rfl
 f6 := ⟨Tryz.f80.name, by decide, Tryz.func80.trans (congrArg some (by kernel_rfl))⟩
 f10 := ⟨Tryz.f144.name, by decide, Tryz.func144.trans (congrArg some (by kernel_rfl))⟩
 t0 := Tryz.underlying0
 a0 := Tryz.isAgg0
 z0 := Tryz.sizeOf0
 v0 := Tryz.zeroValue0
 t3 := Tryz.underlying3
 a3 := Tryz.isAgg3
 z3 := Tryz.sizeOf3
 v3 := Tryz.zeroValue3
 t4 := Tryz.underlying4
 a4 := Tryz.isAgg4
 z4 := Tryz.sizeOf4
 v4 := Tryz.zeroValue4
 t22 := Tryz.underlying33
 a22 := Tryz.isAgg33
 z22 := Tryz.sizeOf33
 v22 := Tryz.zeroValue33
 a23 := Tryz.isAgg9
 z23 := Tryz.sizeOf9
 t25 := Tryz.underlying53
 a25 := Tryz.isAgg53
 z25 := Tryz.sizeOf53
 v25 := Tryz.zeroValue53 }
def YtcpmgellfaeejaaGreatDoor.tt.laysIX_ren : Go.Shelf.Ren := ⟨fun | 143 => 156 | 219 => 162 | 217 => 166 | 225 => 167 | 224 => 168 | 267 => 169 | 266 => 172 | 314 => 173 | n => n, fun | 9 => 9 | 3 => 3 | 4 => 4 | 5 => 5 | 46 => 112 | 146 => 166 | 51 => 165 | n => n, fun | 1 => 1 | n => n⟩
theorem YtcpmgellfaeejaaGreatDoor.tt.laysIX : Go.Proofs.Lays.n143 Tryz.prog YtcpmgellfaeejaaGreatDoor.tt.laysIX_ren := {
 mixed := by kernel_rfl
 f143 := Tryz.func156.trans (congrArg some (by kernel_rfl))
 f217 := Tryz.func166.trans (congrArg some (by kernel_rfl))
 f219 := Tryz.func162.trans (congrArg some (by kernel_rfl))
 f224 := Tryz.func168.trans (congrArg some (by kernel_rfl))
 f225 := Tryz.func167.trans (congrArg some (by kernel_rfl))
 f266 := Tryz.func172.trans (congrArg some (by kernel_rfl))
 f267 := Tryz.func169.trans (congrArg some (by kernel_rfl))
 f314 := Tryz.func173.trans (congrArg some (by kernel_rfl))
 t3 := Tryz.underlying3
 a3 := Tryz.isAgg3
 z3 := Tryz.sizeOf3
 v3 := Tryz.zeroValue3
 t4 := Tryz.underlying4
 a4 := Tryz.isAgg4
 z4 := Tryz.sizeOf4
 v4 := Tryz.zeroValue4
 t5 := Tryz.underlying5
 a5 := Tryz.isAgg5
 z5 := Tryz.sizeOf5
 v5 := Tryz.zeroValue5
 t9 := Tryz.underlying9
 a9 := Tryz.isAgg9
 z9 := Tryz.sizeOf9
 v9 := Tryz.zeroValue9
 t46 := Tryz.underlying112
 a46 := Tryz.isAgg112
 z46 := Tryz.sizeOf112
 v46 := Tryz.zeroValue112
 t51 := Tryz.underlying165
 a51 := Tryz.isAgg165
 z51 := Tryz.sizeOf165
 v51 := Tryz.zeroValue165
 t146 := Tryz.underlying166
 a146 := Tryz.isAgg166
 z146 := Tryz.sizeOf166
 v146 := Tryz.zeroValue166
 g1 := by kernel_rfl }
def YtcpmgellfaeejaaGreatDoor.tt.laysSP_ren : Go.Shelf.Ren := ⟨fun | 146 => 133 | 221 => 157 | 268 => 163 | 138 => 131 | 143 => 156 | 195 => 154 | 197 => 170 | 218 => 155 | 219 => 162 | 260 => 174 | 217 => 166 | 225 => 167 | 224 => 168 | 267 => 169 | 266 => 172 | 314 => 173 | n => n, fun | 9 => 9 | 31 => 33 | 3 => 3 | 4 => 4 | 0 => 0 | 105 => 170 | 21 => 21 | 5 => 5 | 46 => 112 | 119 => 172 | 139 => 175 | 138 => 174 | 146 => 166 | 51 => 165 | n => n, fun | 1 => 1 | 3 => 2 | 4 => 3 | n => n⟩
theorem YtcpmgellfaeejaaGreatDoor.tt.laysSP : Go.Proofs.LaysM.n146 Tryz.prog YtcpmgellfaeejaaGreatDoor.tt.laysSP_ren := {
 mixed := by kernel_rfl
 f138 := Tryz.func131.trans (congrArg some (by kernel_rfl))
 f143 := Tryz.func156.trans (congrArg some (by kernel_rfl))
 f146 := Tryz.func133.trans (congrArg some (by kernel_rfl))
 f195 := Tryz.func154.trans (congrArg some (by kernel_rfl))
 f197 := Tryz.func170.trans (congrArg some (by kernel_rfl))
 f217 := Tryz.func166.trans (congrArg some (by kernel_rfl))
 f218 := Tryz.func155.trans (congrArg some (by kernel_rfl))
 f219 := Tryz.func162.trans (congrArg some (by kernel_rfl))
 f221 := Tryz.func157.trans (congrArg some (by kernel_rfl))
 f224 := Tryz.func168.trans (congrArg some (by kernel_rfl))
 f225 := Tryz.func167.trans (congrArg some (by kernel_rfl))
 f260 := Tryz.func174.trans (congrArg some (by kernel_rfl))
 f266 := Tryz.func172.trans (congrArg some (by kernel_rfl))
 f267 := Tryz.func169.trans (congrArg some (by kernel_rfl))
 f268 := Tryz.func163.trans (congrArg some (by kernel_rfl))
 f314 := Tryz.func173.trans (congrArg some (by kernel_rfl))
 t0 := Tryz.underlying0
 a0 := Tryz.isAgg0
 z0 := Tryz.sizeOf0
 v0 := Tryz.zeroValue0
 t3 := Tryz.underlying3
 a3 := Tryz.isAgg3
 z3 := Tryz.sizeOf3
 v3 := Tryz.zeroValue3
 t4 := Tryz.underlying4
 a4 := Tryz.isAgg4
 z4 := Tryz.sizeOf4
 v4 := Tryz.zeroValue4
 t5 := Tryz.underlying5
 a5 := Tryz.isAgg5
 z5 := Tryz.sizeOf5
 v5 := Tryz.zeroValue5
 t9 := Tryz.underlying9
 a9 := Tryz.isAgg9
 z9 := Tryz.sizeOf9
 v9 := Tryz.zeroValue9
 t21 := Tryz.underlying21
 a21 := Tryz.isAgg21
 z21 := Tryz.sizeOf21
 v21 := Tryz.zeroValue21
 t31 := Tryz.underlying33
 a31 := Tryz.isAgg33
 z31 := Tryz.sizeOf33
 v31 := Tryz.zeroValue33
 t46 := Tryz.underlying112
 a46 := Tryz.isAgg112
 z46 := Tryz.sizeOf112
 v46 := Tryz.zeroValue112
 t51 := Tryz.underlying165
 a51 := Tryz.isAgg165
 z51 := Tryz.sizeOf165
 v51 := Tryz.zeroValue165
 t105 := Tryz.underlying170
 a105 := Tryz.isAgg170
 z105 := Tryz.sizeOf170
 v105 := Tryz.zeroValue170
 t119 := Tryz.underlying172
 a119 := Tryz.isAgg172
 z119 := Tryz.sizeOf172
 t138 := Tryz.underlying174
 a138 := Tryz.isAgg174
 z138 := Tryz.sizeOf174
 v138 := Tryz.zeroValue174
 t139 := Tryz.underlying175
 a139 := Tryz.isAgg175
 z139 := Tryz.sizeOf175
 v139 := Tryz.zeroValue175
 t146 := Tryz.underlying166
 a146 := Tryz.isAgg166
 z146 := Tryz.sizeOf166
 v146 := Tryz.zeroValue166
 g1 := by kernel_rfl
 g3 := by kernel_rfl
 g4 := by kernel_rfl
 i0 := by kernel_rfl
 i3 := by kernel_rfl
 i4 := by kernel_rfl
 i5 := by kernel_rfl
 i9 := by kernel_rfl
 i21 := by kernel_rfl
 i31 := by kernel_rfl
 i46 := by kernel_rfl
 i51 := by kernel_rfl
 i105 := by kernel_rfl
 i138 := by kernel_rfl
 i139 := by kernel_rfl
 i146 := by kernel_rfl
 m1 := by kernel_rfl
 s1_3 := fun w h => Go.Proofs.cell_of_shapedOpen_int (zero := #[.int .i64 0]) (t := 3) h (of_decide_eq_true (by kernel_rfl)) (by kernel_rfl) rfl (by kernel_rfl) (by kernel_rfl) Tryz.underlying3
 m3 := by kernel_rfl
 m4 := by kernel_rfl }
def YtcpmgellfaeejaaGreatDoor.tt.laysCT_ren : Go.Shelf.Ren := ⟨fun | 138 => 131 | 195 => 154 | 218 => 155 | 143 => 156 | 219 => 162 | 217 => 166 | 225 => 167 | 224 => 168 | 267 => 169 | 266 => 172 | 314 => 173 | n => n, fun | 9 => 9 | 3 => 3 | 4 => 4 | 5 => 5 | 0 => 0 | 46 => 112 | 146 => 166 | 51 => 165 | n => n, fun | 1 => 1 | n => n⟩
theorem YtcpmgellfaeejaaGreatDoor.tt.laysCT : Go.Proofs.Lays.n138 Tryz.prog YtcpmgellfaeejaaGreatDoor.tt.laysCT_ren := {
 mixed := by kernel_rfl
 f138 := Tryz.func131.trans (congrArg some (by kernel_rfl))
 f143 := Tryz.func156.trans (congrArg some (by kernel_rfl))
 f195 := Tryz.func154.trans (congrArg some (by kernel_rfl))
 f217 := Tryz.func166.trans (congrArg some (by kernel_rfl))
 f218 := Tryz.func155.trans (congrArg some (by kernel_rfl))
 f219 := Tryz.func162.trans (congrArg some (by kernel_rfl))
 f224 := Tryz.func168.trans (congrArg some (by kernel_rfl))
 f225 := Tryz.func167.trans (congrArg some (by kernel_rfl))
 f266 := Tryz.func172.trans (congrArg some (by kernel_rfl))
 f267 := Tryz.func169.trans (congrArg some (by kernel_rfl))
 f314 := Tryz.func173.trans (congrArg some (by kernel_rfl))
 t0 := Tryz.underlying0
 a0 := Tryz.isAgg0
 z0 := Tryz.sizeOf0
 v0 := Tryz.zeroValue0
 t3 := Tryz.underlying3
 a3 := Tryz.isAgg3
 z3 := Tryz.sizeOf3
 v3 := Tryz.zeroValue3
 t4 := Tryz.underlying4
 a4 := Tryz.isAgg4
 z4 := Tryz.sizeOf4
 v4 := Tryz.zeroValue4
 t5 := Tryz.underlying5
 a5 := Tryz.isAgg5
 z5 := Tryz.sizeOf5
 v5 := Tryz.zeroValue5
 t9 := Tryz.underlying9
 a9 := Tryz.isAgg9
 z9 := Tryz.sizeOf9
 v9 := Tryz.zeroValue9
 t46 := Tryz.underlying112
 a46 := Tryz.isAgg112
 z46 := Tryz.sizeOf112
 v46 := Tryz.zeroValue112
 t51 := Tryz.underlying165
 a51 := Tryz.isAgg165
 z51 := Tryz.sizeOf165
 v51 := Tryz.zeroValue165
 t146 := Tryz.underlying166
 a146 := Tryz.isAgg166
 z146 := Tryz.sizeOf166
 v146 := Tryz.zeroValue166
 g1 := by kernel_rfl }
def YtcpmgellfaeejaaGreatDoor.tt.laysLI_ren : Go.Shelf.Ren := ⟨fun | 148 => 134 | 222 => 158 | 223 => 159 | 269 => 164 | n => n, fun | 9 => 9 | 3 => 3 | 4 => 4 | 5 => 5 | 146 => 166 | 51 => 165 | 46 => 112 | n => n, fun | n => n⟩
theorem YtcpmgellfaeejaaGreatDoor.tt.laysLI : Go.Proofs.Lays.n148 Tryz.prog YtcpmgellfaeejaaGreatDoor.tt.laysLI_ren := {
 mixed := by kernel_rfl
 f148 := Tryz.func134.trans (congrArg some (by kernel_rfl))
 f222 := Tryz.func158.trans (congrArg some (by kernel_rfl))
 f223 := Tryz.func159.trans (congrArg some (by kernel_rfl))
 f269 := Tryz.func164.trans (congrArg some (by kernel_rfl))
 t3 := Tryz.underlying3
 a3 := Tryz.isAgg3
 z3 := Tryz.sizeOf3
 v3 := Tryz.zeroValue3
 t4 := Tryz.underlying4
 a4 := Tryz.isAgg4
 z4 := Tryz.sizeOf4
 v4 := Tryz.zeroValue4
 t5 := Tryz.underlying5
 a5 := Tryz.isAgg5
 z5 := Tryz.sizeOf5
 v5 := Tryz.zeroValue5
 t9 := Tryz.underlying9
 a9 := Tryz.isAgg9
 z9 := Tryz.sizeOf9
 v9 := Tryz.zeroValue9
 t46 := Tryz.underlying112
 a46 := Tryz.isAgg112
 z46 := Tryz.sizeOf112
 v46 := Tryz.zeroValue112
 t51 := Tryz.underlying165
 a51 := Tryz.isAgg165
 z51 := Tryz.sizeOf165
 v51 := Tryz.zeroValue165
 t146 := Tryz.underlying166
 a146 := Tryz.isAgg166
 z146 := Tryz.sizeOf166
 v146 := Tryz.zeroValue166 }
end Go.Proofs

namespace Go.Proofs.YtcpmgellfaeejaaGreatDoor.sr
open Go.ChangeShapes Go.WideShapes Go.ChangeAt Go.RowKit Go.Deep
set_option linter.unusedVariables false
set_option linter.unusedSimpArgs false
theorem own_none (w : World) (e : TypeId) : (w.alloc (.cells #[] e)).ownsRow w.heap.size e 1 (.slice (some ⟨w.heap.size, 0, none⟩) 0 0) 0 [] := World.ownsRow_made w #[] 0 (Nat.le_refl _) (by decide) rfl
def fadd : List (List UInt8) → List UInt8 → List (List UInt8)
 | [], s => [s]
 | x :: r, s => if Op.bytesLess x s = true then x :: fadd r s else if x = s then x :: r else s :: x :: r
theorem StrR.own {w : World} {base : Nat} {v : Value} {xs : List (List UInt8)} (h : w.ownsRow base 9 1 v xs.length (xs.map strL)) (hpos : 0 < xs.length) : StrR w v xs := StrR.own' h (by
 rintro rfl
 rcases h.2 with ⟨_, h2⟩ | ⟨g, cap, cur, h2, _⟩
 ·omega
 ·cases h2)
theorem fadd_len (s : List UInt8) : ∀ (xs : List (List UInt8)), xs.length ≤ (fadd xs s).length ∧ (fadd xs s).length ≤ xs.length + 1
 | [] => by simp [fadd]
 | x :: r => by
  have := fadd_len s r
  unfold fadd
  split
  ·simp; omega
  ·split <;> simp
theorem fadd_at {s : List UInt8} : ∀ {xs : List (List UInt8)} {k : Nat}, k ≤ xs.length → (∀ i, i < k → Op.bytesLess (xAt xs i) s = true) → (k = xs.length ∨ Op.bytesLess (xAt xs k) s = false) →
  fadd xs s = if k < xs.length ∧ xAt xs k = s then xs else xs.take k ++ [s] ++ xs.drop k
 | [], k, hk, _, _ => by
  obtain rfl : k = 0 := by simpa using hk
  simp [fadd]
 | x :: r, 0, hk, _, h => by
  have hx : Op.bytesLess x s = false := by
   rcases h with h | h
   ·simp at h
   ·simpa [xAt] using h
  unfold fadd
  rw [if_neg (by simp [hx])]
  simp [xAt]
 | x :: r, k + 1, hk, ha, h => by
  have hx : Op.bytesLess x s = true := by simpa [xAt] using ha 0 (by omega)
  have ih := fadd_at (s := s) (xs := r) (k := k) (by simp at hk; omega) (fun i hi => by simpa [xAt] using ha (i + 1) (by omega)) (by
   rcases h with h | h
   ·left; simpa using h
   ·right; simpa [xAt] using h)
  unfold fadd
  rw [if_pos hx, ih]
  have e : xAt (x :: r) (k + 1) = xAt r k := by simp [xAt]
  by_cases hh : k < r.length ∧ xAt r k = s
  ·rw [if_pos hh, if_pos ⟨by simp; omega, by rw [e]; exact hh.2⟩]
  ·rw [if_neg hh, if_neg (fun h2 => hh ⟨by have := h2.1; simp at this; omega, by rw [← e]; exact h2.2⟩)]
   simp
theorem step_row {base : Nat} {W : World} {ops : Array Oper} {o : Oper} {a : Act} {K : Act → World → Prop} {Q : Exit → Act → World → Prop} {E : Prop} (hgd : o.guard = none) (s x : Operand)
  (ho : o.op = .call { callee := .builtin .append, args := #[s, x], argTypes := #[33, 33] }) (v : Value) (l : List (List UInt8)) (hs : a.eval s = v) (hown : W.ownsRow base 9 1 v l.length (l.map strL)) (hb : base ≤ W.heap.size) (ad : Addr) (m c : Nat) (news : List (List UInt8))
  (hx : a.eval x = .slice (some ad) m c) (hm : news.length = m) (hnews : ∀ j u, (news.map strL)[j]? = some u → W.cell? (ad.add j) = some u) (hlen : l.length + m ≤ 1000000) (h : ∀ v' w', w'.ownsRow base 9 1 v' (l ++ news).length ((l ++ news).map strL) → W.grownBy w' v.ownBlock → K (a.put o.dst v') w') :
  if Region.wanted o (yielded ops a.tmps) = true then Oper.wp Tryz.prog o a W K Q else E := by
 have hw : Region.wanted o (yielded ops a.tmps) = true := by simp [Region.wanted, hgd]
 rw [if_pos hw]
 obtain ⟨i0, hi, hz0, hz1, hz2⟩ := info_parts info9
 refine wp_append_own W s x 33 ho base 9 i0 _ 1 16 Tryz.underlying33 hi hz0 hz1 hz2 rfl (by omega) v l.length (l.map strL) hs hown ad m c (news.map strL) hx (by simpa using hm) hnews (strL_one _) (by unfold maxLen; omega) (by omega) hb ?_
 intro v' w' h1 h2 _
 exact h _ _ (by rw [List.length_append, List.map_append, hm]; exact h1) h2
theorem one_atb (w : World) (s : ByteArray) : ∀ j u, ([s.data.toList].map strL)[j]? = some u → (w.alloc (.cells #[.string s] 9)).cell? ((⟨w.heap.size, 0, none⟩ : Addr).add j) = some u := by
 rw [List.map_singleton, strL_of]
 exact one_new w _ 9
theorem row_newsk {w : World} {bb off k n : Nat} {xs : List (List UInt8)} (hc : ∀ i x, xs[i]? = some x → w.cell? ⟨bb, off + i, none⟩ = some (strL x)) : ∀ j u, ((xs.take k).map strL)[j]? = some u → w.cell? ((⟨bb, off, none⟩ : Addr).add j) = some u := by
 intro j u h
 rw [List.getElem?_map, Option.map_eq_some_iff] at h
 obtain ⟨x, hx, rfl⟩ := h
 rw [List.getElem?_take] at hx
 split at hx
 ·rw [addr_add]
  exact hc j x hx
 ·cases hx
theorem row_drop {w : World} {bb off k cap : Nat} {xs : List (List UInt8)} (hc : ∀ i x, xs[i]? = some x → w.cell? ⟨bb, off + i, none⟩ = some (strL x)) (hk : k ≤ xs.length) (hcap : xs.length ≤ cap) {a1 : Addr} (ha : (if cap = k then some (⟨bb, off, none⟩ : Addr) else some ⟨bb, off + k, none⟩) = some a1) : ∀ j u, ((xs.drop k).map strL)[j]? = some u → w.cell? (a1.add j) = some u := by
 intro j u h
 rw [List.getElem?_map, Option.map_eq_some_iff] at h
 obtain ⟨x, hx, rfl⟩ := h
 rw [List.getElem?_drop] at hx
 have hlt := (List.getElem?_eq_some_iff.1 hx).1
 rw [if_neg (by omega)] at ha
 obtain rfl := Option.some.inj ha
 rw [addr_add, Nat.add_assoc]
 exact hc _ x hx
set_option maxRecDepth 100000 in
set_option maxHeartbeats 1000000 in
theorem sadd_any (xs : List (List UInt8)) (v : Value) (s : ByteArray) (w : World) (hR : StrR w v xs) (hn : xs.length ≤ 4000) :
  Calls Tryz.prog 89 #[v, .string s] w fun e w' => ∃ v', e = .returned v' ∧ StrR w' v' (fadd xs s.data.toList) ∧ Below w.heap.size w w' := by
 have HR : Hid (StrR w v xs) := hR
 obtain ⟨bb, off, cap, rfl, h1, h2, hc⟩ := hR
 have HC : Hid (∀ i, i < xs.length → w.cell? ⟨bb, off + i, none⟩ = some (strL (xAt xs i))) := fun i hi => hc i _ (xAt_some hi)
 have HCC : Hid (∀ i x, xs[i]? = some x → w.cell? ⟨bb, off + i, none⟩ = some (strL x)) := hc
 unfold maxLen at h2
 clear hc
 go_enter Tryz.func89, Tryz.ntmps89
 go_wp2
 go_loopw [5] (fun x wr => ∃ (k : Nat), k ≤ xs.length ∧ x = .int .i64 (k : Int) ∧ (∀ j, j < k → Op.bytesLess (xAt xs j) s.data.toList = true) ∧ wr = w) (fun x _ => xs.length - (intOf x).toNat)
 case atStart => exact ⟨0, Nat.zero_le _, rfl, fun j h => by omega, rfl⟩
 case round =>
  obtain ⟨k, hk, rfl, hbe, rfl⟩ := hrel
  have HBE : Hid (∀ j, j < k → Op.bytesLess (xAt xs j) s.data.toList = true) := hbe
  clear hbe
  by_cases h : k < xs.length
  ·have h' : (k : Int) < (xs.length : Int) := by omega
   have ce := HC.out k h
   rw [strL] at ce
   obtain ⟨u, hu⟩ : ∃ u : ByteArray, (⟨(xAt xs k).toArray⟩ : ByteArray) = u := ⟨_, rfl⟩
   rw [hu] at ce
   have HU : Hid (u.toList = xAt xs k) := by show _ = _; rw [← hu, toL]
   clear hu
   cases hl : Op.bytesLess u.toList s.toList with
   | true =>
    have HX : Hid (Op.bytesLess (xAt xs k) s.data.toList = true) := by show _ = _; rw [← HU.out, ← ByteArray.toList_eq]; exact hl
    go_wp2
    go_roundw
    case rel => exact ⟨k + 1, by omega, by go_num, fun j hj => by
     rcases Nat.lt_or_ge j k with h | h
     ·exact HBE.out j h
     ·obtain rfl : j = k := by omega
      exact HX.out, by first | rfl | trivial⟩
    case measure => simp [intOf]; omega
   | false =>
    have HF := fadd_at (s := s.data.toList) hk HBE.out (.inr (by rw [← HU.out, ← ByteArray.toList_eq]; exact hl))
    cases he : (u.toList == s.toList) with
    | true =>
     have HY : Hid (fadd xs s.data.toList = xs) := by
      show _ = _
      rw [HF, if_pos ⟨h, by rw [← HU.out, ← ByteArray.toList_eq]; simpa using he⟩]
     clear HF
     go_wp2
     go_ret
     exact ⟨_, rfl, by rw [HY.out]; exact HR.out, Below.refl _ _⟩
    | false =>
     have HY : Hid (fadd xs s.data.toList = xs.take k ++ [s.data.toList] ++ xs.drop k) := by
      show _ = _
      rw [HF, if_neg]
      rintro ⟨_, e⟩
      rw [← HU.out, ← ByteArray.toList_eq] at e
      simp [e] at he
     clear HF
     obtain ⟨a1, ha1⟩ : ∃ a1 : Addr, (if cap = k then some (⟨bb, off, none⟩ : Addr) else some ⟨bb, off + k, none⟩) = some a1 := by split <;> exact ⟨_, rfl⟩
     have k1 : (k : Int) ≤ (cap : Int) := by omega
     have k2 : (k : Int) ≤ (xs.length : Int) := by omega
     have HCB : Hid (∀ w', Below wr.heap.size wr w' → ∀ i x, xs[i]? = some x → w'.cell? ⟨bb, off + i, none⟩ = some (strL x)) := fun w' hb i x hx => (hb.cell (p := ⟨bb, _, none⟩) (World.block_lt_of_cell? _ _ (HCC.out i x hx))).trans (HCC.out i x hx)
     have HA1 : Hid ((if cap = k then some (⟨bb, off, none⟩ : Addr) else some ⟨bb, off + k, none⟩) = some a1) := ha1
     have HO0 := own_none wr 9
     have HB0 : Below wr.heap.size wr (wr.alloc (.cells #[] 9)) := (Below.refl _ _).alloc (Nat.le_refl _) _
     have HO0' : Hid ((wr.alloc (.cells #[] 9)).ownsRow wr.heap.size 9 1 (.slice (some ⟨wr.heap.size, 0, none⟩) 0 0) 0 []) := HO0
     clear HO0
     go_wp2_with (first
      | (at_builtin; refine app_own _ rfl _ _ 33 rfl wr.heap.size 9 (.string ⟨#[]⟩) 16 Tryz.underlying33 info9 rfl _ _ _ rfl HO0'.out ⟨bb, off, none⟩ k cap ((xs.take k).map strL) rfl (by simp only [List.length_map, List.length_take]; omega) (row_newsk (n := 0) (HCB.out _ HB0)) (strL_one _) (by unfold maxLen; omega) (by omega) (by simp) ?_)
      | go_in)
     intro v1 w1 hown1 hg1
     have B1 : Below wr.heap.size wr w1 := below_grown HB0 HO0'.out hg1 (by simp)
     have hown1' : w1.ownsRow wr.heap.size 9 1 v1 (xs.take k).length ((xs.take k).map strL) := by
      have e : (xs.take k).length = 0 + k := by simp; omega
      rw [e]
      simpa using hown1
     have HO1 : Hid ((w1.alloc (.cells #[.string s] 9)).drew.ownsRow wr.heap.size 9 1 v1 (xs.take k).length ((xs.take k).map strL)) := (hown1'.alloc _).drew
     have B1d : Below wr.heap.size wr (w1.alloc (.cells #[.string s] 9)).drew := (B1.alloc B1.size _).drew
     have htk : (xs.take k).length = k := by simp; omega
     clear hown1 hown1' hg1
     go_wp2_with fail
     go_region_held3 (fun _ => True)
      (trivial)
      (first
       | ((refine step_row (by rfl) _ _ (by rfl) v1 (xs.take k) (by rfl) HO1.out B1d.size ⟨w1.heap.size, 0, none⟩ 1 1 [s.data.toList] (by rfl) (by rfl) (fun j u h => one_atb w1 s j u h) (by rw [htk]; omega) ?_; intro v2 w2 hown2 hg2; have B2 := below_grown B1d HO1.out hg2 B1d.size))
       | ((refine step_row (by rfl) _ _ (by rfl) v2 (xs.take k ++ [s.data.toList]) (by rfl) hown2 B2.size a1 (xs.length - k) (cap - k) (xs.drop k) (by rfl) (by simp) (row_drop (HCB.out _ B2) hk h1 HA1.out) (by rw [List.length_append, htk]; simp; omega) ?_; intro v3 w3 hown3 hg3; have B3 := below_grown B2 hown2 hg3 B2.size)))
     go_wp2_with fail
     go_ret
     refine ⟨_, rfl, ?_, B3⟩
     rw [HY.out]
     exact StrR.own hown3 (by simp only [List.length_append, List.length_cons]; omega)
  ·have h' : ¬ (k : Int) < (xs.length : Int) := by omega
   obtain rfl : k = xs.length := by omega
   have HF := fadd_at (s := s.data.toList) hk HBE.out (.inl rfl)
   have HY : Hid (fadd xs s.data.toList = xs.take xs.length ++ [s.data.toList] ++ xs.drop xs.length) := by
    show _ = _
    rw [HF, if_neg (by omega)]
   clear HF
   obtain ⟨a1, ha1⟩ : ∃ a1 : Addr, (if cap = xs.length then some (⟨bb, off, none⟩ : Addr) else some ⟨bb, off + xs.length, none⟩) = some a1 := by split <;> exact ⟨_, rfl⟩
   have k1 : (xs.length : Int) ≤ (cap : Int) := by omega
   have HCB : Hid (∀ w', Below wr.heap.size wr w' → ∀ i x, xs[i]? = some x → w'.cell? ⟨bb, off + i, none⟩ = some (strL x)) := fun w' hb i x hx => (hb.cell (p := ⟨bb, _, none⟩) (World.block_lt_of_cell? _ _ (HCC.out i x hx))).trans (HCC.out i x hx)
   have HA1 : Hid ((if cap = xs.length then some (⟨bb, off, none⟩ : Addr) else some ⟨bb, off + xs.length, none⟩) = some a1) := ha1
   have HO0 := own_none wr 9
   have HB0 : Below wr.heap.size wr (wr.alloc (.cells #[] 9)) := (Below.refl _ _).alloc (Nat.le_refl _) _
   have HO0' : Hid ((wr.alloc (.cells #[] 9)).ownsRow wr.heap.size 9 1 (.slice (some ⟨wr.heap.size, 0, none⟩) 0 0) 0 []) := HO0
   clear HO0
   go_wp2_with (first
    | (at_builtin; refine app_own _ rfl _ _ 33 rfl wr.heap.size 9 (.string ⟨#[]⟩) 16 Tryz.underlying33 info9 rfl _ _ _ rfl HO0'.out ⟨bb, off, none⟩ xs.length cap ((xs.take xs.length).map strL) rfl (by simp only [List.length_map, List.length_take]; omega) (row_newsk (n := 0) (HCB.out _ HB0)) (strL_one _) (by unfold maxLen; omega) (by omega) (by simp) ?_)
    | go_in)
   intro v1 w1 hown1 hg1
   have B1 : Below wr.heap.size wr w1 := below_grown HB0 HO0'.out hg1 (by simp)
   have hown1' : w1.ownsRow wr.heap.size 9 1 v1 (xs.take xs.length).length ((xs.take xs.length).map strL) := by
    have e : (xs.take xs.length).length = 0 + xs.length := by simp only [List.length_take]; omega
    rw [e]
    simpa using hown1
   have HO1 : Hid ((w1.alloc (.cells #[.string s] 9)).drew.ownsRow wr.heap.size 9 1 v1 (xs.take xs.length).length ((xs.take xs.length).map strL)) := (hown1'.alloc _).drew
   have B1d : Below wr.heap.size wr (w1.alloc (.cells #[.string s] 9)).drew := (B1.alloc B1.size _).drew
   have htk : (xs.take xs.length).length = xs.length := by simp only [List.length_take]; omega
   clear hown1 hown1' hg1
   go_wp2_with fail
   go_region_held3 (fun _ => True)
    (trivial)
    (first
     | ((refine step_row (by rfl) _ _ (by rfl) v1 (xs.take xs.length) (by rfl) HO1.out B1d.size ⟨w1.heap.size, 0, none⟩ 1 1 [s.data.toList] (by rfl) (by rfl) (fun j u h => one_atb w1 s j u h) (by rw [htk]; omega) ?_; intro v2 w2 hown2 hg2; have B2 := below_grown B1d HO1.out hg2 B1d.size))
     | ((refine step_row (by rfl) _ _ (by rfl) v2 (xs.take xs.length ++ [s.data.toList]) (by rfl) hown2 B2.size a1 0 (cap - xs.length) (xs.drop xs.length) (by rfl) (by simp) (row_drop (HCB.out _ B2) hk h1 HA1.out) (by rw [List.length_append, htk]; simp; omega) ?_; intro v3 w3 hown3 hg3; have B3 := below_grown B2 hown2 hg3 B2.size)))
   go_wp2_with fail
   go_ret
   refine ⟨_, rfl, ?_, B3⟩
   rw [HY.out]
   exact StrR.own hown3 (by simp only [List.length_append, List.length_cons]; omega)
def asc (l : List (List UInt8)) : Prop := l.Pairwise (fun a b => a < b)
theorem bl (x y : List UInt8) : Op.bytesLess x y = true ↔ x < y := by rw [Go.Proofs.bytesLess_eq]; simp
theorem fadd_mem (s : List UInt8) : ∀ (l : List (List UInt8)) (x : List UInt8), x ∈ fadd l s ↔ x ∈ l ∨ x = s
 | [], x => by simp [fadd]
 | y :: r, x => by
  have ih := fadd_mem s r x
  unfold fadd
  split
  ·simp [ih, or_assoc]
  ·split
   ·next h =>
    subst h
    constructor
    ·exact fun h => .inl h
    ·rintro (h | rfl)
     ·exact h
     ·simp
   ·rw [List.mem_cons, Or.comm]
theorem fadd_asc (s : List UInt8) : ∀ (l : List (List UInt8)), asc l → asc (fadd l s)
 | [], _ => by simp [fadd, asc]
 | y :: r, h => by
  have h' := List.pairwise_cons.1 h
  unfold fadd
  split
  ·next hl =>
   refine List.pairwise_cons.2 ⟨fun x hx => ?_, fadd_asc s r h'.2⟩
   rcases (fadd_mem s r x).1 hx with hx | rfl
   ·exact h'.1 x hx
   ·exact (bl _ _).1 hl
  ·next hl =>
   split
   ·exact h
   ·next hne =>
    have hlt : s < y := by
     have h1 : ¬ y < s := fun hh => hl ((bl _ _).2 hh)
     rcases List.le_iff_lt_or_eq.1 (List.not_lt.1 h1) with h2 | h2
     ·exact h2
     ·exact absurd h2.symm hne
    refine List.pairwise_cons.2 ⟨fun x hx => ?_, h⟩
    rcases List.mem_cons.1 hx with rfl | hx
    ·exact hlt
    ·exact List.lt_trans hlt (h'.1 x hx)
theorem fold_mem : ∀ (l o : List (List UInt8)) (x : List UInt8), x ∈ l.foldl fadd o ↔ x ∈ o ∨ x ∈ l
 | [], o, x => by simp
 | y :: l, o, x => by
  have := fold_mem l (fadd o y) x
  rw [List.foldl_cons, this, fadd_mem]
  simp [or_assoc]
theorem fold_asc : ∀ (l o : List (List UInt8)), asc o → asc (l.foldl fadd o)
 | [], o, h => h
 | y :: l, o, h => fold_asc l _ (fadd_asc y o h)
theorem asc_nodup {l : List (List UInt8)} (h : asc l) : l.Nodup := h.imp fun hab e => by subst e; exact List.lt_irrefl _ hab

theorem asc_ext : ∀ {a b : List (List UInt8)}, asc a → asc b → (∀ x, x ∈ a ↔ x ∈ b) → a = b
 | [], [], _, _, _ => rfl
 | [], y :: b, _, _, h => by have := (h y).2 (by simp); simp at this
 | x :: a, [], _, _, h => by have := (h x).1 (by simp); simp at this
 | x :: a, y :: b, ha, hb, h => by
  have ha' := List.pairwise_cons.1 ha
  have hb' := List.pairwise_cons.1 hb
  have e : x = y := by
   rcases List.mem_cons.1 ((h x).1 (by simp)) with h1 | h1
   ·exact h1
   ·rcases List.mem_cons.1 ((h y).2 (by simp)) with h2 | h2
    ·exact h2.symm
    ·exact absurd (List.lt_trans (hb'.1 x h1) (ha'.1 y h2)) (List.lt_irrefl _)
  subst e
  rw [asc_ext ha'.2 hb'.2 (fun z => by
   constructor
   ·intro hz
    rcases List.mem_cons.1 ((h z).1 (by simp [hz])) with h1 | h1
    ·subst h1; exact absurd (ha'.1 z hz) (List.lt_irrefl _)
    ·exact h1
   ·intro hz
    rcases List.mem_cons.1 ((h z).2 (by simp [hz])) with h1 | h1
    ·subst h1; exact absurd (hb'.1 z hz) (List.lt_irrefl _)
    ·exact h1)]
theorem at_toArray (l : List (List UInt8)) (j : Nat) (h : j < l.length) : l.toArray[j]! = l[j] := by
 rw [getElem!_pos _ j (by simpa using h)]; simp
theorem compact_mem (l : List (List UInt8)) (x : List UInt8) : x ∈ Lib.compact l ↔ x ∈ l := by
 unfold Lib.compact Lib.compactUpTo
 simp only [List.mem_map, List.mem_filter, List.mem_range]
 constructor
 ·rintro ⟨j, ⟨hj, _⟩, rfl⟩
  rw [at_toArray l j hj]; exact List.getElem_mem hj
 ·intro hx
  obtain ⟨j, hj, rfl⟩ := List.getElem_of_mem hx
  induction j using Nat.strongRecOn with
  | ind j ih =>
   by_cases hk : Lib.keeps l.toArray j = true
   ·exact ⟨j, ⟨hj, hk⟩, at_toArray l j hj⟩
   ·have hk' : ¬ (j = 0) ∧ l[j] = l[j - 1]'(by omega) := by
     have hk2 : ¬ (j = 0 ∨ l.toArray[j]! ≠ l.toArray[j - 1]!) := by simpa [Lib.keeps] using hk
     have h0 : ¬ j = 0 := fun h => hk2 (.inl h)
     refine ⟨h0, ?_⟩
     have h1 : l.toArray[j]! = l.toArray[j - 1]! := Classical.byContradiction fun h => hk2 (.inr h)
     rwa [at_toArray l j hj, at_toArray l (j - 1) (by omega)] at h1
    have := ih (j - 1) (by omega) (by omega)
    rw [hk'.2]
    exact this (List.getElem_mem _)
theorem compact_asc {l : List (List UInt8)} (h : l.Pairwise (fun a b => a ≤ b)) : asc (Lib.compact l) := by
 unfold Lib.compact Lib.compactUpTo asc
 rw [List.pairwise_map]
 have hp : ((List.range l.length).filter (Lib.keeps l.toArray)).Pairwise (fun i j => i < j ∧ j < l.length ∧ Lib.keeps l.toArray j = true) := by
  rw [List.pairwise_iff_forall_sublist]
  intro i j hs
  have h1 : [i, j].Sublist (List.range l.length) := hs.trans List.filter_sublist
  have h2 := (List.pairwise_iff_forall_sublist.1 List.pairwise_lt_range) h1
  have h3 : j ∈ (List.range l.length).filter (Lib.keeps l.toArray) := hs.subset (by simp)
  rw [List.mem_filter, List.mem_range] at h3
  exact ⟨h2, h3.1, h3.2⟩
 refine hp.imp ?_
 rintro i j ⟨hij, hj, hk⟩
 rw [at_toArray l i (by omega), at_toArray l j hj]
 have hk2 : j = 0 ∨ l.toArray[j]! ≠ l.toArray[j - 1]! := by simpa [Lib.keeps] using hk
 have hne : l[j] ≠ l[j - 1]'(by omega) := by
  rcases hk2 with h | h
  ·omega
  ·rwa [at_toArray l j hj, at_toArray l (j - 1) (by omega)] at h
 have hs1 : l[j - 1]'(by omega) ≤ l[j] := (List.pairwise_iff_getElem.1 h) (j - 1) j (by omega) hj (by omega)
 have hs0 : l[i]'(by omega) ≤ l[j - 1]'(by omega) := by
  rcases Nat.lt_or_ge i (j - 1) with h' | h'
  ·exact (List.pairwise_iff_getElem.1 h) i (j - 1) (by omega) (by omega) h'
  ·have : i = j - 1 := by omega
   subst this; exact List.le_refl _
 have hlt : l[j - 1]'(by omega) < l[j] := by
  rcases Classical.em (l[j - 1]'(by omega) < l[j]) with h' | h'
  ·exact h'
  ·exact absurd (List.le_antisymm (List.not_lt.1 h') hs1) hne
 exact Classical.byContradiction fun hn => hne (List.le_antisymm (List.le_trans (List.not_lt.1 hn) hs0) hs1)
end Go.Proofs.YtcpmgellfaeejaaGreatDoor.sr
