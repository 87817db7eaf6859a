import Derived.Test.YtjbdklkingfmpaaGreatDoorRows
import Derived.Test.YtjbdklkingfmpaaGreatDoorLn
import Derived.Lib.Strings
import Derived.Lib.Walk
import Derived.Lib.BufferWrite
import Derived.Lib.UnsafeStr
import Derived.Lib.Hide
import Derived.Laws.MakeOwn
import Derived.Test.YtjbdklkingfmpaaGreatDoorRAn
import Derived.Deep.DeepAppendRoom
namespace Go.Proofs.YtjbdklkingfmpaaGreatDoor.cl
open Go.RowKit
set_option linter.unusedVariables false
theorem info5 : (Tryz.prog.info? 5).map (fun i => (i.zero, i.size, i.bytes)) = some (some (.int .u8 0), 1, 1) := by kernel_rfl
set_option maxHeartbeats 4000000 in
set_option maxRecDepth 100000 in
theorem slite_any (s : ByteArray) (w : World) (hlim : s.size ≤ 1099511627776) :
  Calls Tryz.prog 125 #[.string s] w fun e w' => e = .returned (.string s) ∧ Below w.heap.size w w' := by
 by_cases h0 : s.size = 0
 ·have hs : s = ⟨#[]⟩ := by
   apply ByteArray.ext
   exact Array.eq_empty_of_size_eq_zero h0
  subst hs
  go_enter Tryz.func125, Tryz.ntmps125
  go_wp2
  go_ret
  exact ⟨rfl, Below.refl _ _⟩
 ·obtain ⟨i0, hi, hz0, hz1, hz2⟩ := info_parts info5
  have hinfo : (Tryz.prog.info? 5).map (·.size) = some 1 := by rw [hi]; simp [hz1]
  have hco : Tryz.prog.cellsOf 5 = 1 := by simp [Program.cellsOf, hi, hz1]
  obtain ⟨M, hM⟩ : ∃ M, M = madeCells (Value.int .u8 0).cells (((s.size : Nat) : Int).toNat * i0.size) := ⟨_, rfl⟩
  have hMs : M.size = s.size := by rw [hM, size_madeCells, hz1]; simp
  have hmk : ∀ W : World, (Instr.makeSlice 123 (.int .i64 (s.size : Int)) (.int .i64 (s.size : Int))).run Tryz.prog W = .ok (.slice (some ⟨W.heap.size, 0, none⟩) s.size s.size) (W.alloc (.cells M 5)) := fun W => by
   have h := run_make (P := Tryz.prog) W 123 5 i0 (.int .u8 0) Tryz.underlying123 hi hz0 .i64 .i64 (s.size : Int) (s.size : Int) (by omega) (by omega) (by rw [hz2]; omega) (by omega)
   rw [← hM] at h
   simpa using h
  clear hM
  have hcp := Lib.run_copy_row_string (P := Tryz.prog) (w.alloc (.cells M 5)) 123 9 3 5 w.heap.size 0 s.size s.size s M 5 Tryz.underlying123 hinfo (heap_alloc_new w _) (Nat.le_refl _) (by omega)
  obtain ⟨Y, hY⟩ : ∃ Y, Y = (M.toList.take 0 ++ Lib.byteCells s.data.toList ++ M.toList.drop (0 + s.size)).toArray := ⟨_, rfl⟩
  rw [← hY] at hcp
  have hYl : Y.toList = Lib.byteCells s.data.toList := by
   rw [hY, List.toList_toArray, List.take_zero, List.nil_append, List.drop_of_length_le (by rw [Array.length_toList]; omega), List.append_nil]
  have hYs : Y.size = s.size := by rw [← Array.length_toList, hYl, Lib.byteCells_length, ← Lib.size_eq]
  have hgY : ((w.alloc (.cells M 5)).setRow w.heap.size Y).heap[w.heap.size]? = some (.cells Y 5 (0, 0)) := setRow_heap _ _ M _ 5 (0, 0) (heap_alloc_new w _)
  have hne : s.data.toList ≠ [] := fun e => h0 (by rw [Lib.size_eq, e]; rfl)
  have hUS := Lib.run_unsafeString_row (P := Tryz.prog) ((w.alloc (.cells M 5)).setRow w.heap.size Y) 190 3 9 5 Tryz.underlying190 hco w.heap.size Y.size (by unfold World.shape?; rw [hgY]) s.data.toList hne (by rw [← Lib.size_eq]; omega) (by rw [← Lib.size_eq]; omega)
   (fun j x hx => Lib.cells_of_row hgY Y.size j _ (by rw [List.take_of_length_le (by rw [Array.length_toList]; exact Nat.le_refl _), hYl]; simp [Lib.byteCells, hx]))
  rw [← Lib.size_eq] at hUS
  clear hY
  go_enter Tryz.func125, Tryz.ntmps125
  go_wp2
  go_ret
  have hb1 : Below w.heap.size w (w.alloc (.cells M 5)) := (Below.refl _ w).alloc (Nat.le_refl _) _
  have hb2 : Below w.heap.size (w.alloc (.cells M 5)) ((w.alloc (.cells M 5)).setRow w.heap.size Y) := ⟨rfl, rfl, rfl, by simp, fun k hk => setRow_other _ _ _ _ (by omega)⟩
  exact ⟨rfl, Lib.below_freeze (hb1.trans hb2) (p := ⟨w.heap.size, 0, none⟩) (Nat.le_refl _) _⟩
theorem clone_any (s : ByteArray) (w : World) (hlim : s.size ≤ 1099511627776) :
  Calls Tryz.prog 75 #[.string s] w fun e w' => e = .returned (.string s) ∧ Below w.heap.size w w' := by
 go_enter Tryz.func75, Tryz.ntmps75
 go_wp2_with (go_at_call 125; refine (slite_any _ _ hlim).mono ?_; rintro e w1 ⟨rfl, hl⟩)
 go_ret
 exact ⟨rfl, hl⟩
end Go.Proofs.YtjbdklkingfmpaaGreatDoor.cl
namespace Go.Proofs.YtjbdklkingfmpaaGreatDoor.sr
open Go.ChangeShapes Go.WideShapes Go.ChangeAt Go.RowKit Go.Deep
set_option linter.unusedVariables false
set_option linter.unusedSimpArgs false
def RdS (w : World) (v : Value) (xs : List (List UInt8)) : Prop := ∃ ad cap, v = .slice ad xs.length cap ∧ ∀ i x, xs[i]? = some x → ∃ bb off, ad = some ⟨bb, off, none⟩ ∧ w.cell? ⟨bb, off + i, none⟩ = some (strL x)
theorem RdS.row {w : World} {v : Value} {xs : List (List UInt8)} (h : StrR w v xs) : RdS w v xs := by
 obtain ⟨bb, off, cap, rfl, _, _, hc⟩ := h
 exact ⟨_, cap, rfl, fun i x hx => ⟨bb, off, rfl, hc i x hx⟩⟩
theorem RdS.own {w : World} {B : Nat} {v : Value} {xs : List (List UInt8)} (h : w.ownsRow B 9 1 v xs.length (xs.map strL)) : RdS w v xs := by
 by_cases hv : v = .slice none 0 0
 ·subst hv
  obtain ⟨_, h'⟩ := h
  rcases h' with ⟨_, h0⟩ | ⟨g, c, cur, e, _⟩
  ·have : xs = [] := by
    have h1 := congrArg List.length (show xs.map strL = [] by simpa using h0)
    simpa using h1
   subst this
   exact ⟨none, 0, rfl, fun i x hx => by simp at hx⟩
  ·cases e
 ·exact RdS.row (StrR.own' h hv)
theorem bel_grownR {B g : Nat} {w w1 w2 : World} (h : Below B w w1) (hg : w1.grownBy w2 (some g)) (hB : B ≤ w1.heap.size) (hb : B ≤ g) : Below B w w2 := h.grown hg hB (fun k hk => by cases hk; exact hb)
theorem made_rowR (w : World) (cap : Nat) (hc : cap ≤ 2000000) : (w.alloc (.cells (madeCells (Value.string ⟨#[]⟩).cells cap) 9)).ownsRow w.heap.size 9 1 (.slice (some ⟨w.heap.size, 0, none⟩) 0 cap) ([] : List (List UInt8)).length (([] : List (List UInt8)).map strL) :=
 World.ownsRow_made w _ cap (Nat.le_refl _) (by unfold maxLen; omega) (by rw [size_madeCells]; simp)
theorem make_runR (n : Nat) (hn : n ≤ 2000000) (w : World) : (Instr.makeSlice 29 (.int .i64 0) (.int .i64 (n : Int))).run Tryz.prog w = .ok (.slice (some ⟨w.heap.size, 0, none⟩) 0 n) (w.alloc (.cells (madeCells (Value.string ⟨#[]⟩).cells n) 9)) := by
 obtain ⟨i, hi, hz, hs, hb⟩ := info_parts info9
 have hr := run_make (P := Tryz.prog) w 29 9 i _ Tryz.underlying29 hi hz .i64 .i64 0 n (by omega) (by omega) (by rw [hb]; omega) (by omega)
 simp only [Int.toNat_natCast, Int.toNat_zero, hs, Nat.mul_one] at hr
 exact hr
set_option maxRecDepth 100000 in
set_option maxHeartbeats 4000000 in
theorem clonedR_any (xs : List (List UInt8)) (hx : ∀ x ∈ xs, x.length ≤ 1048576) (v : Value) (w : World) (hR : RdS w v xs) (hn : xs.length ≤ 1048576) :
  Calls Tryz.prog 70 #[v] w fun e w' => e = .returned (.slice (some ⟨w.heap.size, 0, none⟩) xs.length xs.length) ∧ OwnS w.heap.size w' (.slice (some ⟨w.heap.size, 0, none⟩) xs.length xs.length) xs ∧ Below w.heap.size w w' := by
 obtain ⟨ad, cap, rfl, hc⟩ := hR
 have HC : Hid (∀ i x, xs[i]? = some x → ∃ bb off, ad = some ⟨bb, off, none⟩ ∧ w.cell? ⟨bb, off + i, none⟩ = some (strL x)) := hc
 have HXS : Hid (∀ x ∈ xs, x.length ≤ 1048576) := hx
 obtain ⟨n, hnn⟩ : ∃ n, xs.length = n := ⟨_, rfl⟩
 have HNN : Hid (xs.length = n) := hnn
 rw [hnn] at hn ⊢
 have hmk := make_runR n (by omega)
 have HO0 : Hid ((w.alloc (.cells (madeCells (Value.string ⟨#[]⟩).cells n) 9)).ownsRow w.heap.size 9 1 (.slice (some ⟨w.heap.size, 0, none⟩) 0 n) 0 ((xs.take 0).map strL)) := made_rowR w n (by omega)
 obtain ⟨i9, hi9, hz0, hz1, hz2⟩ := info_parts info9
 clear hnn hc hx
 go_enter Tryz.func70, Tryz.ntmps70
 go_wp2
 clear hmk
 go_loopw [3, 5, 11] (fun v _ x wr => ∃ i : Nat, i ≤ n ∧ x = .int .i64 (i : Int) ∧ v = .slice (some ⟨w.heap.size, 0, none⟩) i n ∧ wr.ownsRow w.heap.size 9 1 (.slice (some ⟨w.heap.size, 0, none⟩) i n) i ((xs.take i).map strL) ∧ Below w.heap.size w wr) (fun _ _ x _ => n - (intOf x).toNat)
 case atStart => exact ⟨0, Nat.zero_le _, rfl, rfl, HO0.out, (Below.refl _ _).alloc (Nat.le_refl _) _⟩
 case round =>
  obtain ⟨i, hi, rfl, rfl, hown, hbel⟩ := hrel
  have HBE : Hid (Below w.heap.size w wr) := hbel
  have HOW : Hid (wr.ownsRow w.heap.size 9 1 (.slice (some ⟨w.heap.size, 0, none⟩) i n) i ((xs.take i).map strL)) := hown
  by_cases hil : i < n
  ·have hil' : (i : Int) < (n : Int) := by omega
   have hi0' : (0 : Int) ≤ (i : Int) := by omega
   obtain ⟨x, hx⟩ : ∃ x, xs[i]? = some x := ⟨_, List.getElem?_eq_getElem (by rw [HNN.out]; exact hil)⟩
   obtain ⟨bb, off, rfl, hcc⟩ := HC.out i x hx
   have c0 := (hbel.cell (p := ⟨bb, _, none⟩) (World.block_lt_of_cell? _ _ hcc)).trans hcc
   clear hcc
   have HNX : Hid ((xs.take (i + 1)).map strL = (xs.take i).map strL ++ [strL x]) := by show _ = _; rw [List.take_add_one, hx]; simp
   have hps := HXS.out x (List.mem_of_getElem? hx)
   have HCL0 : Hid (∀ W : World, Calls Tryz.prog 75 #[.string ⟨x.toArray⟩] W fun e w' => e = .returned (.string ⟨x.toArray⟩) ∧ Below W.heap.size W w') := fun W => cl.clone_any _ W (by show x.toArray.size ≤ _; simp; omega)
   have hst : strL x = .string ⟨x.toArray⟩ := rfl
   rw [hst] at c0 HNX
   obtain ⟨s, hs⟩ : ∃ s : ByteArray, (⟨x.toArray⟩ : ByteArray) = s := ⟨_, rfl⟩
   rw [hs] at c0 HNX HCL0
   clear hs hst hx hps hown hbel
   go_wp2_with (go_at_call 75; refine (HCL0.out _).mono ?_; rintro e w1 ⟨rfl, hb1⟩; refine Hid.out ?_)
   refine Lib.hid ?_
   have hB1 : Below w.heap.size w w1 := HBE.out.trans (hb1.mono HBE.out.size)
   have HO1 : Hid (∀ ob, (w1.alloc ob).ownsRow w.heap.size 9 1 (.slice (some ⟨w.heap.size, 0, none⟩) i n) i ((xs.take i).map strL)) := fun ob => own_below HOW.out (hb1.alloc hb1.size _)
   clear hb1
   go_wp2_with (first
    | (at_builtin; refine wpList_append_own_spare _ rfl _ _ 29 rfl w.heap.size 9 i9 1 Tryz.underlying29 hi9 hz1 w.heap.size i n ((xs.take i).map strL) rfl (HO1.out _) ⟨w1.heap.size, 0, none⟩ 1 1 [.string s] rfl rfl (one_new w1 _ _) (by intro u hu; simp only [List.mem_singleton] at hu; subst hu; rfl) (by omega) ?_; intro w4 hown4 hg4; refine Hid.out ?_)
    | go_in)
   refine Lib.hid ?_
   have HB4 : Hid (Below w.heap.size w w4) := bel_grownR (hB1.alloc hB1.size _) hg4 (Nat.le_trans hB1.size (by rw [World.size_alloc]; omega)) (Nat.le_refl _)
   have HO4 : Hid (w4.ownsRow w.heap.size 9 1 (.slice (some ⟨w.heap.size, 0, none⟩) (i + 1) n) (i + 1) ((xs.take (i + 1)).map strL)) := by show World.ownsRow _ _ _ _ _ _ _; rw [HNX.out]; exact hown4
   clear hown4 hg4
   go_wp2
   go_roundw
   case rel => exact ⟨i + 1, by omega, by go_num, rfl, HO4.out, HB4.out⟩
   case measure => simp [intOf]; omega
  ·have hil' : ¬ (i : Int) < (n : Int) := by omega
   obtain rfl : i = n := by omega
   have HE : Hid (OwnS w.heap.size wr (.slice (some ⟨w.heap.size, 0, none⟩) i i) xs) := by
    have h := HOW.out
    rw [List.take_of_length_le (by rw [HNN.out]; exact Nat.le_refl _)] at h
    exact ⟨by rw [HNN.out]; exact h, by intro e; cases e⟩
   clear hown hbel
   go_wp2
   go_ret
   exact ⟨rfl, HE.out, HBE.out⟩
end Go.Proofs.YtjbdklkingfmpaaGreatDoor.sr
