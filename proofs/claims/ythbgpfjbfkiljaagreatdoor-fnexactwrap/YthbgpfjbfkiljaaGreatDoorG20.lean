import Derived.Test.YthbgpfjbfkiljaaGreatDoorG12
import Derived.Deep.RegionHeld3
import Derived.Deep.QuietTactic
import Derived.BigQuiet
set_option linter.unusedVariables false
set_option linter.unusedSimpArgs false
set_option maxRecDepth 100000
set_option maxHeartbeats 16000000
namespace Go.Proofs.YthbgpfjbfkiljaaGreatDoor.ty
open Go.ChangeShapes Go.WideShapes Go.ChangeAt Go.RowKit Go.Deep
theorem eqS_any (a a' : Option Addr) (c c' : Nat) (l : List ByteArray) (w : World) (hb : SrcS none w a l) (hb' : SrcS none w a' l) (hn : wtS l ≤ 1048576) :
  Calls Tryz.prog 12 #[.slice a l.length c, .slice a' l.length c'] w fun e w' => e = .returned (.bool true) ∧ Below w.heap.size w w' := by
 have hl := wtS_len l
 have hn1 : l.length ≤ 1048576 := by omega
 have HB : Hid (SrcS none w a l) := hb
 have HB' : Hid (SrcS none w a' l) := hb'
 clear hb hb' hn hl
 go_enter Tryz.func12, Tryz.ntmps12
 go_wp2
 go_loopw [5] (fun i wr => ∃ k : Nat, k ≤ l.length ∧ i = .int .i64 (k : Int) ∧ ∃ q, wr = w.drewN q) (fun i _ => l.length - (intOf i).toNat)
 case atStart => exact ⟨0, Nat.zero_le _, rfl, 0, rfl⟩
 case round =>
  obtain ⟨k, hk, rfl, q, rfl⟩ := hrel
  by_cases hlt : k < l.length
  ·obtain ⟨x, hx⟩ : ∃ x, l[k]? = some x := ⟨_, List.getElem?_eq_getElem hlt⟩
   rcases HB.out with ⟨_, h⟩ | ⟨b, off, rfl, _, hc⟩
   ·rw [h] at hlt; simp at hlt
   rcases HB'.out with ⟨_, h⟩ | ⟨b', off', rfl, _, hc'⟩
   ·rw [h] at hlt; simp at hlt
   have hck := hc k x hx
   have hck' := hc' k x hx
   have hlt' : (k : Int) < (l.length : Int) := by omega
   clear hc hc' hx HB HB'
   go_wp2
   go_quiet (fail)
   go_wp2
   go_roundw
   case rel => exact ⟨k + 1, by omega, by go_num, _, rfl⟩
   case measure => simp [intOf]; omega
  ·have hlt' : ¬ (k : Int) < (l.length : Int) := by omega
   go_wp2
   go_ret
   exact ⟨rfl, below_drewN (Below.refl _ _) _⟩
theorem eq1Et_any (y0 : ByteArray) (y1 : Int) (y2 : ByteArray) (y3 : Bool)  (w : World)  :
  Calls Tryz.prog 30 #[.agg #[.string y0, .int .i64 y1, .string y2, .bool y3], .agg #[.string y0, .int .i64 y1, .string y2, .bool y3]] w fun e w' => e = .returned (.bool true) ∧ Below w.heap.size w w' := by

 have HB0 : Hid (Below w.heap.size w ((w.alloc (.cells #[.string y0, .int .i64 y1, .string y2, .bool y3] 62)).alloc (.cells #[.string y0, .int .i64 y1, .string y2, .bool y3] 62))) := ((Below.refl _ _).alloc (Nat.le_refl _) _).alloc (by simp) _
 go_enter Tryz.func30, Tryz.ntmps30
 go_wp2
 go_ret
 first
  | exact ⟨by first | rfl | simp, HB0.out⟩
  | exact ⟨by first | rfl | simp, HB0.out.drew⟩
  | exact ⟨by first | rfl | simp, below_drewN HB0.out _⟩
theorem eqEt_any (a a' : Option Addr) (c c' : Nat) (l : List Et) (w : World) (hb : SrcEt none w a l) (hb' : SrcEt none w a' l) (hn : wtEt l ≤ 1048576) :
  Calls Tryz.prog 10 #[.slice a l.length c, .slice a' l.length c'] w fun e w' => e = .returned (.bool true) ∧ Below w.heap.size w w' := by
 have hl := wtEt_len l
 have hn1 : l.length ≤ 1048576 := by omega
 have HB : Hid (SrcEt none w a l) := hb
 have HB' : Hid (SrcEt none w a' l) := hb'
 clear hb hb' hl
 go_enter Tryz.func10, Tryz.ntmps10
 go_wp2
 go_loopw [5] (fun i wr => ∃ k : Nat, k ≤ l.length ∧ i = .int .i64 (k : Int) ∧ Below w.heap.size w wr) (fun i _ => l.length - (intOf i).toNat)
 case atStart => exact ⟨0, Nat.zero_le _, rfl, Below.refl _ _⟩
 case round =>
  obtain ⟨k, hk, rfl, hbel⟩ := hrel
  have HBE : Hid (Below w.heap.size w wr) := hbel
  by_cases hlt : k < l.length
  ·obtain ⟨x, hx⟩ : ∃ x, l[k]? = some x := ⟨_, List.getElem?_eq_getElem hlt⟩
   have hwx := wtEt_mem (List.mem_of_getElem? hx)
   rcases HB.out with ⟨_, h⟩ | ⟨b, o, rfl, _, hc⟩
   ·rw [h] at hlt; simp at hlt
   rcases HB'.out with ⟨_, h⟩ | ⟨b', o', rfl, _, hc'⟩
   ·rw [h] at hlt; simp at hlt
   have hlt' : (k : Int) < (l.length : Int) := by omega
   have hk0 : (0 : Int) ≤ (k : Int) := by omega
   obtain ⟨e0, e1, e2, e3⟩ := hc k x hx
   obtain ⟨e0', e1', e2', e3'⟩ := hc' k x hx
   have K : ∀ {W : World} {q p v}, Below w.heap.size w W → w.cell? ⟨q, p, none⟩ = some v → W.cell? ⟨q, p, none⟩ = some v := fun {W q p v} hW h => (hW.cell (p := ⟨q, p, none⟩) (World.block_lt_of_cell? _ _ h)).trans h
   have HC : Hid (∀ W : World, Below w.heap.size w W → (W.cell? ⟨b, o + k * 4, none⟩ = some (.string x.fPath) ∧ W.cell? ⟨b, o + k * 4 + 1, none⟩ = some (.int .i64 x.fKind) ∧ W.cell? ⟨b, o + k * 4 + 2, none⟩ = some (.string x.fData) ∧ W.cell? ⟨b, o + k * 4 + 3, none⟩ = some (.bool x.fExec)) ∧ W.cell? ⟨b', o' + k * 4, none⟩ = some (.string x.fPath) ∧ W.cell? ⟨b', o' + k * 4 + 1, none⟩ = some (.int .i64 x.fKind) ∧ W.cell? ⟨b', o' + k * 4 + 2, none⟩ = some (.string x.fData) ∧ W.cell? ⟨b', o' + k * 4 + 3, none⟩ = some (.bool x.fExec)) := fun W h => ⟨⟨K h e0, K h e1, K h e2, K h e3⟩, K h e0', K h e1', K h e2', K h e3'⟩
   have HEQ := Lib.hid fun (W : World) (h : Below w.heap.size w W) => eq1Et_any x.fPath x.fKind x.fData x.fExec  W 
   obtain ⟨z0, hz0⟩ : ∃ z, x.fPath = z := ⟨_, rfl⟩
   obtain ⟨z1, hz1⟩ : ∃ z, x.fKind = z := ⟨_, rfl⟩
   obtain ⟨z2, hz2⟩ : ∃ z, x.fData = z := ⟨_, rfl⟩
   obtain ⟨z3, hz3⟩ : ∃ z, x.fExec = z := ⟨_, rfl⟩
   rw [hz0, hz1, hz2, hz3] at HC HEQ
   clear hbel hc hc' hx HB HB' hz0 hz1 hz2 hz3 e0 e1 e2 e3 e0' e1' e2' e3' K hwx
   go_wp2_with fail
   go_region_held3 (fun W => (W.cell? ⟨b, o + k * 4, none⟩ = some (.string z0) ∧ W.cell? ⟨b, o + k * 4 + 1, none⟩ = some (.int .i64 z1) ∧ W.cell? ⟨b, o + k * 4 + 2, none⟩ = some (.string z2) ∧ W.cell? ⟨b, o + k * 4 + 3, none⟩ = some (.bool z3)) ∧ W.cell? ⟨b', o' + k * 4, none⟩ = some (.string z0) ∧ W.cell? ⟨b', o' + k * 4 + 1, none⟩ = some (.int .i64 z1) ∧ W.cell? ⟨b', o' + k * 4 + 2, none⟩ = some (.string z2) ∧ W.cell? ⟨b', o' + k * 4 + 3, none⟩ = some (.bool z3))
    (first | exact HC.out _ HBE.out.drew | exact HC.out _ hb2 | exact HC.out _ HBE.out | go_keep)
    (((go_at_call 30; refine (HEQ.out _ HBE.out.drew).mono ?_; rintro e w2 ⟨rfl, hl2⟩; have hb2 : Below w.heap.size w w2 := HBE.out.drew.trans (hl2.mono HBE.out.size))))
   go_wp2_with fail
   go_roundw
   case rel => exact ⟨k + 1, by omega, by go_num, hb2⟩
   case measure => simp [intOf]; omega
  ·have hlt' : ¬ (k : Int) < (l.length : Int) := by omega
   go_wp2
   go_ret
   exact ⟨rfl, hbel⟩
theorem eq1It_any (y0 : ByteArray) (y1 : ByteArray) (y2 : List ByteArray) (y3 : ByteArray) (y4 : List Et) (a2 a2' : Option Addr) (c2 c2' : Nat) (a4 a4' : Option Addr) (c4 c4' : Nat) (w : World) (hb2 : SrcS none w a2 y2) (hb2' : SrcS none w a2' y2) (hn2 : wtS y2 ≤ 1048576) (hb4 : SrcEt none w a4 y4) (hb4' : SrcEt none w a4' y4) (hn4 : wtEt y4 ≤ 1048576) :
  Calls Tryz.prog 68 #[.agg #[.string y0, .string y1, .slice a2 y2.length c2, .string y3, .slice a4 y4.length c4], .agg #[.string y0, .string y1, .slice a2' y2.length c2', .string y3, .slice a4' y4.length c4']] w fun e w' => e = .returned (.bool true) ∧ Below w.heap.size w w' := by

 have HEQ2 := Lib.hid fun (W : World) (h : Below w.heap.size w W) => eqS_any a2 a2' c2 c2' y2 W (hb2.below h) (hb2'.below h) hn2
 have HEQ4 := Lib.hid fun (W : World) (h : Below w.heap.size w W) => eqEt_any a4 a4' c4 c4' y4 W (hb4.below h) (hb4'.below h) hn4
 clear hb2 hb2' hn2 hb4 hb4' hn4
 have HB0 : Hid (Below w.heap.size w ((w.alloc (.cells #[.string y0, .string y1, .slice a2 y2.length c2, .string y3, .slice a4 y4.length c4] 100)).alloc (.cells #[.string y0, .string y1, .slice a2' y2.length c2', .string y3, .slice a4' y4.length c4'] 100))) := ((Below.refl _ _).alloc (Nat.le_refl _) _).alloc (by simp) _
 go_enter Tryz.func68, Tryz.ntmps68
 go_wp2_with (go_at_call 12; refine (HEQ2.out _ (by first | exact HB0.out | exact HB0.out.drew)).mono ?_; rintro e w2 ⟨rfl, hl2⟩; refine Hid.out ?_)
 refine Lib.hid ?_
 have HB3 : Hid (Below w.heap.size w w2) := by first | exact HB0.out.trans (hl2.mono HB0.out.size) | exact HB0.out.drew.trans (hl2.mono HB0.out.size)
 obtain ⟨k1, k2⟩ := bcell hl2
 have p2_3 : w2.cell? ⟨w.heap.size, 3, none⟩ = some (.string y3) := (k1 _ _ (by first | (simp; done) | (simp; omega))).trans (by simp [go_sem])
 have p'2_3 : w2.cell? ⟨w.heap.size + 1, 3, none⟩ = some (.string y3) := (k1 _ _ (by first | (simp; done) | (simp; omega))).trans (by simp [go_sem])
 have p2_4 : w2.cell? ⟨w.heap.size, 4, none⟩ = some (.slice a4 y4.length c4) := (k1 _ _ (by first | (simp; done) | (simp; omega))).trans (by simp [go_sem])
 have p'2_4 : w2.cell? ⟨w.heap.size + 1, 4, none⟩ = some (.slice a4' y4.length c4') := (k1 _ _ (by first | (simp; done) | (simp; omega))).trans (by simp [go_sem])
 clear k1 k2
 clear hl2
 go_wp2_with (go_at_call 10; refine (HEQ4.out _ (by first | exact HB3.out | exact HB3.out.drew)).mono ?_; rintro e w4 ⟨rfl, hl4⟩; refine Hid.out ?_)
 refine Lib.hid ?_
 have HB5 : Hid (Below w.heap.size w w4) := by first | exact HB3.out.trans (hl4.mono HB3.out.size) | exact HB3.out.drew.trans (hl4.mono HB3.out.size)
 clear hl4
 go_wp2
 go_ret
 first
  | exact ⟨by first | rfl | simp, HB5.out⟩
  | exact ⟨by first | rfl | simp, HB5.out.drew⟩
  | exact ⟨by first | rfl | simp, below_drewN HB5.out _⟩
theorem eqIt_any (a a' : Option Addr) (c c' : Nat) (l : List It) (w : World) (hb : SrcIt none w a l) (hb' : SrcIt none w a' l) (hn : wtIt l ≤ 1048576) :
  Calls Tryz.prog 31 #[.slice a l.length c, .slice a' l.length c'] w fun e w' => e = .returned (.bool true) ∧ Below w.heap.size w w' := by
 have hl := wtIt_len l
 have hn1 : l.length ≤ 1048576 := by omega
 have HB : Hid (SrcIt none w a l) := hb
 have HB' : Hid (SrcIt none w a' l) := hb'
 clear hb hb' hl
 go_enter Tryz.func31, Tryz.ntmps31
 go_wp2
 go_loopw [5] (fun i wr => ∃ k : Nat, k ≤ l.length ∧ i = .int .i64 (k : Int) ∧ Below w.heap.size w wr) (fun i _ => l.length - (intOf i).toNat)
 case atStart => exact ⟨0, Nat.zero_le _, rfl, Below.refl _ _⟩
 case round =>
  obtain ⟨k, hk, rfl, hbel⟩ := hrel
  have HBE : Hid (Below w.heap.size w wr) := hbel
  by_cases hlt : k < l.length
  ·obtain ⟨x, hx⟩ : ∃ x, l[k]? = some x := ⟨_, List.getElem?_eq_getElem hlt⟩
   have hwx := wtIt_mem (List.mem_of_getElem? hx)
   rcases HB.out with ⟨_, h⟩ | ⟨b, o, rfl, _, hc⟩
   ·rw [h] at hlt; simp at hlt
   rcases HB'.out with ⟨_, h⟩ | ⟨b', o', rfl, _, hc'⟩
   ·rw [h] at hlt; simp at hlt
   have hlt' : (k : Int) < (l.length : Int) := by omega
   have hk0 : (0 : Int) ≤ (k : Int) := by omega
   obtain ⟨a2, c2, a4, c4, e0, e1, e2, e3, e4, s2, s4, _, _⟩ := hc k x hx
   obtain ⟨a2', c2', a4', c4', e0', e1', e2', e3', e4', s2', s4', _, _⟩ := hc' k x hx
   have K : ∀ {W : World} {q p v}, Below w.heap.size w W → w.cell? ⟨q, p, none⟩ = some v → W.cell? ⟨q, p, none⟩ = some v := fun {W q p v} hW h => (hW.cell (p := ⟨q, p, none⟩) (World.block_lt_of_cell? _ _ h)).trans h
   have HC : Hid (∀ W : World, Below w.heap.size w W → (W.cell? ⟨b, o + k * 5, none⟩ = some (.string x.fPath) ∧ W.cell? ⟨b, o + k * 5 + 1, none⟩ = some (.string x.fSum) ∧ W.cell? ⟨b, o + k * 5 + 2, none⟩ = some (.slice a2 x.fRefs.length c2) ∧ W.cell? ⟨b, o + k * 5 + 3, none⟩ = some (.string x.fFrom) ∧ W.cell? ⟨b, o + k * 5 + 4, none⟩ = some (.slice a4 x.fTree.length c4)) ∧ W.cell? ⟨b', o' + k * 5, none⟩ = some (.string x.fPath) ∧ W.cell? ⟨b', o' + k * 5 + 1, none⟩ = some (.string x.fSum) ∧ W.cell? ⟨b', o' + k * 5 + 2, none⟩ = some (.slice a2' x.fRefs.length c2') ∧ W.cell? ⟨b', o' + k * 5 + 3, none⟩ = some (.string x.fFrom) ∧ W.cell? ⟨b', o' + k * 5 + 4, none⟩ = some (.slice a4' x.fTree.length c4')) := fun W h => ⟨⟨K h e0, K h e1, K h e2, K h e3, K h e4⟩, K h e0', K h e1', K h e2', K h e3', K h e4'⟩
   have HEQ := Lib.hid fun (W : World) (h : Below w.heap.size w W) => eq1It_any x.fPath x.fSum x.fRefs x.fFrom x.fTree a2 a2' c2 c2' a4 a4' c4 c4' W (s2.below h) (s2'.below h) (by unfold wt1It at hwx; omega) (s4.below h) (s4'.below h) (by unfold wt1It at hwx; omega)
   obtain ⟨z0, hz0⟩ : ∃ z, x.fPath = z := ⟨_, rfl⟩
   obtain ⟨z1, hz1⟩ : ∃ z, x.fSum = z := ⟨_, rfl⟩
   obtain ⟨z2, hz2⟩ : ∃ z, x.fRefs.length = z := ⟨_, rfl⟩
   obtain ⟨z3, hz3⟩ : ∃ z, x.fFrom = z := ⟨_, rfl⟩
   obtain ⟨z4, hz4⟩ : ∃ z, x.fTree.length = z := ⟨_, rfl⟩
   rw [hz0, hz1, hz2, hz3, hz4] at HC HEQ
   clear hbel hc hc' hx HB HB' hz0 hz1 hz2 hz3 hz4 e0 e1 e2 e3 e4 s2 s4 e0' e1' e2' e3' e4' s2' s4' K hwx
   go_wp2_with fail
   go_region_held3 (fun W => (W.cell? ⟨b, o + k * 5, none⟩ = some (.string z0) ∧ W.cell? ⟨b, o + k * 5 + 1, none⟩ = some (.string z1) ∧ W.cell? ⟨b, o + k * 5 + 2, none⟩ = some (.slice a2 z2 c2) ∧ W.cell? ⟨b, o + k * 5 + 3, none⟩ = some (.string z3) ∧ W.cell? ⟨b, o + k * 5 + 4, none⟩ = some (.slice a4 z4 c4)) ∧ W.cell? ⟨b', o' + k * 5, none⟩ = some (.string z0) ∧ W.cell? ⟨b', o' + k * 5 + 1, none⟩ = some (.string z1) ∧ W.cell? ⟨b', o' + k * 5 + 2, none⟩ = some (.slice a2' z2 c2') ∧ W.cell? ⟨b', o' + k * 5 + 3, none⟩ = some (.string z3) ∧ W.cell? ⟨b', o' + k * 5 + 4, none⟩ = some (.slice a4' z4 c4'))
    (first | exact HC.out _ HBE.out.drew | exact HC.out _ hb2 | exact HC.out _ HBE.out | go_keep)
    (((go_at_call 68; refine (HEQ.out _ HBE.out.drew).mono ?_; rintro e w2 ⟨rfl, hl2⟩; have hb2 : Below w.heap.size w w2 := HBE.out.drew.trans (hl2.mono HBE.out.size))))
   go_wp2_with fail
   go_roundw
   case rel => exact ⟨k + 1, by omega, by go_num, hb2⟩
   case measure => simp [intOf]; omega
  ·have hlt' : ¬ (k : Int) < (l.length : Int) := by omega
   go_wp2
   go_ret
   exact ⟨rfl, hbel⟩
theorem eq1Ge_any (y0 : Int) (y1 : ByteArray)  (w : World)  :
  Calls Tryz.prog 143 #[.agg #[.int .i64 y0, .string y1], .agg #[.int .i64 y0, .string y1]] w fun e w' => e = .returned (.bool true) ∧ Below w.heap.size w w' := by

 have HB0 : Hid (Below w.heap.size w ((w.alloc (.cells #[.int .i64 y0, .string y1] 98)).alloc (.cells #[.int .i64 y0, .string y1] 98))) := ((Below.refl _ _).alloc (Nat.le_refl _) _).alloc (by simp) _
 go_enter Tryz.func143, Tryz.ntmps143
 go_wp2
 go_ret
 first
  | exact ⟨by first | rfl | simp, HB0.out⟩
  | exact ⟨by first | rfl | simp, HB0.out.drew⟩
  | exact ⟨by first | rfl | simp, below_drewN HB0.out _⟩
theorem eqGe_any (a a' : Option Addr) (c c' : Nat) (l : List Ge) (w : World) (hb : SrcGe none w a l) (hb' : SrcGe none w a' l) (hn : wtGe l ≤ 1048576) :
  Calls Tryz.prog 109 #[.slice a l.length c, .slice a' l.length c'] w fun e w' => e = .returned (.bool true) ∧ Below w.heap.size w w' := by
 have hl := wtGe_len l
 have hn1 : l.length ≤ 1048576 := by omega
 have HB : Hid (SrcGe none w a l) := hb
 have HB' : Hid (SrcGe none w a' l) := hb'
 clear hb hb' hl
 go_enter Tryz.func109, Tryz.ntmps109
 go_wp2
 go_loopw [5] (fun i wr => ∃ k : Nat, k ≤ l.length ∧ i = .int .i64 (k : Int) ∧ Below w.heap.size w wr) (fun i _ => l.length - (intOf i).toNat)
 case atStart => exact ⟨0, Nat.zero_le _, rfl, Below.refl _ _⟩
 case round =>
  obtain ⟨k, hk, rfl, hbel⟩ := hrel
  have HBE : Hid (Below w.heap.size w wr) := hbel
  by_cases hlt : k < l.length
  ·obtain ⟨x, hx⟩ : ∃ x, l[k]? = some x := ⟨_, List.getElem?_eq_getElem hlt⟩
   have hwx := wtGe_mem (List.mem_of_getElem? hx)
   rcases HB.out with ⟨_, h⟩ | ⟨b, o, rfl, _, hc⟩
   ·rw [h] at hlt; simp at hlt
   rcases HB'.out with ⟨_, h⟩ | ⟨b', o', rfl, _, hc'⟩
   ·rw [h] at hlt; simp at hlt
   have hlt' : (k : Int) < (l.length : Int) := by omega
   have hk0 : (0 : Int) ≤ (k : Int) := by omega
   obtain ⟨e0, e1⟩ := hc k x hx
   obtain ⟨e0', e1'⟩ := hc' k x hx
   have K : ∀ {W : World} {q p v}, Below w.heap.size w W → w.cell? ⟨q, p, none⟩ = some v → W.cell? ⟨q, p, none⟩ = some v := fun {W q p v} hW h => (hW.cell (p := ⟨q, p, none⟩) (World.block_lt_of_cell? _ _ h)).trans h
   have HC : Hid (∀ W : World, Below w.heap.size w W → (W.cell? ⟨b, o + k * 2, none⟩ = some (.int .i64 x.fN) ∧ W.cell? ⟨b, o + k * 2 + 1, none⟩ = some (.string x.fPath)) ∧ W.cell? ⟨b', o' + k * 2, none⟩ = some (.int .i64 x.fN) ∧ W.cell? ⟨b', o' + k * 2 + 1, none⟩ = some (.string x.fPath)) := fun W h => ⟨⟨K h e0, K h e1⟩, K h e0', K h e1'⟩
   have HEQ := Lib.hid fun (W : World) (h : Below w.heap.size w W) => eq1Ge_any x.fN x.fPath  W 
   obtain ⟨z0, hz0⟩ : ∃ z, x.fN = z := ⟨_, rfl⟩
   obtain ⟨z1, hz1⟩ : ∃ z, x.fPath = z := ⟨_, rfl⟩
   rw [hz0, hz1] at HC HEQ
   clear hbel hc hc' hx HB HB' hz0 hz1 e0 e1 e0' e1' K hwx
   go_wp2_with fail
   go_region_held3 (fun W => (W.cell? ⟨b, o + k * 2, none⟩ = some (.int .i64 z0) ∧ W.cell? ⟨b, o + k * 2 + 1, none⟩ = some (.string z1)) ∧ W.cell? ⟨b', o' + k * 2, none⟩ = some (.int .i64 z0) ∧ W.cell? ⟨b', o' + k * 2 + 1, none⟩ = some (.string z1))
    (first | exact HC.out _ HBE.out.drew | exact HC.out _ hb2 | exact HC.out _ HBE.out | go_keep)
    (((go_at_call 143; refine (HEQ.out _ HBE.out.drew).mono ?_; rintro e w2 ⟨rfl, hl2⟩; have hb2 : Below w.heap.size w w2 := HBE.out.drew.trans (hl2.mono HBE.out.size))))
   go_wp2_with fail
   go_roundw
   case rel => exact ⟨k + 1, by omega, by go_num, hb2⟩
   case measure => simp [intOf]; omega
  ·have hlt' : ¬ (k : Int) < (l.length : Int) := by omega
   go_wp2
   go_ret
   exact ⟨rfl, hbel⟩
theorem eq1Pr_any (y0 : ByteArray) (y1 : Int) (y2 : List Ge) (a2 a2' : Option Addr) (c2 c2' : Nat) (w : World) (hb2 : SrcGe none w a2 y2) (hb2' : SrcGe none w a2' y2) (hn2 : wtGe y2 ≤ 1048576) :
  Calls Tryz.prog 69 #[.agg #[.string y0, .int .i64 y1, .slice a2 y2.length c2], .agg #[.string y0, .int .i64 y1, .slice a2' y2.length c2']] w fun e w' => e = .returned (.bool true) ∧ Below w.heap.size w w' := by

 have HEQ2 := Lib.hid fun (W : World) (h : Below w.heap.size w W) => eqGe_any a2 a2' c2 c2' y2 W (hb2.below h) (hb2'.below h) hn2
 clear hb2 hb2' hn2
 have HB0 : Hid (Below w.heap.size w ((w.alloc (.cells #[.string y0, .int .i64 y1, .slice a2 y2.length c2] 95)).alloc (.cells #[.string y0, .int .i64 y1, .slice a2' y2.length c2'] 95))) := ((Below.refl _ _).alloc (Nat.le_refl _) _).alloc (by simp) _
 go_enter Tryz.func69, Tryz.ntmps69
 go_wp2_with (go_at_call 109; refine (HEQ2.out _ (by first | exact HB0.out | exact HB0.out.drew)).mono ?_; rintro e w2 ⟨rfl, hl2⟩; refine Hid.out ?_)
 refine Lib.hid ?_
 have HB3 : Hid (Below w.heap.size w w2) := by first | exact HB0.out.trans (hl2.mono HB0.out.size) | exact HB0.out.drew.trans (hl2.mono HB0.out.size)
 clear hl2
 go_wp2
 go_ret
 first
  | exact ⟨by first | rfl | simp, HB3.out⟩
  | exact ⟨by first | rfl | simp, HB3.out.drew⟩
  | exact ⟨by first | rfl | simp, below_drewN HB3.out _⟩
theorem eqPr_any (a a' : Option Addr) (c c' : Nat) (l : List Pr) (w : World) (hb : SrcPr none w a l) (hb' : SrcPr none w a' l) (hn : wtPr l ≤ 1048576) :
  Calls Tryz.prog 32 #[.slice a l.length c, .slice a' l.length c'] w fun e w' => e = .returned (.bool true) ∧ Below w.heap.size w w' := by
 have hl := wtPr_len l
 have hn1 : l.length ≤ 1048576 := by omega
 have HB : Hid (SrcPr none w a l) := hb
 have HB' : Hid (SrcPr none w a' l) := hb'
 clear hb hb' hl
 go_enter Tryz.func32, Tryz.ntmps32
 go_wp2
 go_loopw [5] (fun i wr => ∃ k : Nat, k ≤ l.length ∧ i = .int .i64 (k : Int) ∧ Below w.heap.size w wr) (fun i _ => l.length - (intOf i).toNat)
 case atStart => exact ⟨0, Nat.zero_le _, rfl, Below.refl _ _⟩
 case round =>
  obtain ⟨k, hk, rfl, hbel⟩ := hrel
  have HBE : Hid (Below w.heap.size w wr) := hbel
  by_cases hlt : k < l.length
  ·obtain ⟨x, hx⟩ : ∃ x, l[k]? = some x := ⟨_, List.getElem?_eq_getElem hlt⟩
   have hwx := wtPr_mem (List.mem_of_getElem? hx)
   rcases HB.out with ⟨_, h⟩ | ⟨b, o, rfl, _, hc⟩
   ·rw [h] at hlt; simp at hlt
   rcases HB'.out with ⟨_, h⟩ | ⟨b', o', rfl, _, hc'⟩
   ·rw [h] at hlt; simp at hlt
   have hlt' : (k : Int) < (l.length : Int) := by omega
   have hk0 : (0 : Int) ≤ (k : Int) := by omega
   obtain ⟨a2, c2, e0, e1, e2, s2, _⟩ := hc k x hx
   obtain ⟨a2', c2', e0', e1', e2', s2', _⟩ := hc' k x hx
   have K : ∀ {W : World} {q p v}, Below w.heap.size w W → w.cell? ⟨q, p, none⟩ = some v → W.cell? ⟨q, p, none⟩ = some v := fun {W q p v} hW h => (hW.cell (p := ⟨q, p, none⟩) (World.block_lt_of_cell? _ _ h)).trans h
   have HC : Hid (∀ W : World, Below w.heap.size w W → (W.cell? ⟨b, o + k * 3, none⟩ = some (.string x.fName) ∧ W.cell? ⟨b, o + k * 3 + 1, none⟩ = some (.int .i64 x.fNow) ∧ W.cell? ⟨b, o + k * 3 + 2, none⟩ = some (.slice a2 x.fGens.length c2)) ∧ W.cell? ⟨b', o' + k * 3, none⟩ = some (.string x.fName) ∧ W.cell? ⟨b', o' + k * 3 + 1, none⟩ = some (.int .i64 x.fNow) ∧ W.cell? ⟨b', o' + k * 3 + 2, none⟩ = some (.slice a2' x.fGens.length c2')) := fun W h => ⟨⟨K h e0, K h e1, K h e2⟩, K h e0', K h e1', K h e2'⟩
   have HEQ := Lib.hid fun (W : World) (h : Below w.heap.size w W) => eq1Pr_any x.fName x.fNow x.fGens a2 a2' c2 c2' W (s2.below h) (s2'.below h) (by unfold wt1Pr at hwx; omega)
   obtain ⟨z0, hz0⟩ : ∃ z, x.fName = z := ⟨_, rfl⟩
   obtain ⟨z1, hz1⟩ : ∃ z, x.fNow = z := ⟨_, rfl⟩
   obtain ⟨z2, hz2⟩ : ∃ z, x.fGens.length = z := ⟨_, rfl⟩
   rw [hz0, hz1, hz2] at HC HEQ
   clear hbel hc hc' hx HB HB' hz0 hz1 hz2 e0 e1 e2 s2 e0' e1' e2' s2' K hwx
   go_wp2_with fail
   go_region_held3 (fun W => (W.cell? ⟨b, o + k * 3, none⟩ = some (.string z0) ∧ W.cell? ⟨b, o + k * 3 + 1, none⟩ = some (.int .i64 z1) ∧ W.cell? ⟨b, o + k * 3 + 2, none⟩ = some (.slice a2 z2 c2)) ∧ W.cell? ⟨b', o' + k * 3, none⟩ = some (.string z0) ∧ W.cell? ⟨b', o' + k * 3 + 1, none⟩ = some (.int .i64 z1) ∧ W.cell? ⟨b', o' + k * 3 + 2, none⟩ = some (.slice a2' z2 c2'))
    (first | exact HC.out _ HBE.out.drew | exact HC.out _ hb2 | exact HC.out _ HBE.out | go_keep)
    (((go_at_call 69; refine (HEQ.out _ HBE.out.drew).mono ?_; rintro e w2 ⟨rfl, hl2⟩; have hb2 : Below w.heap.size w w2 := HBE.out.drew.trans (hl2.mono HBE.out.size))))
   go_wp2_with fail
   go_roundw
   case rel => exact ⟨k + 1, by omega, by go_num, hb2⟩
   case measure => simp [intOf]; omega
  ·have hlt' : ¬ (k : Int) < (l.length : Int) := by omega
   go_wp2
   go_ret
   exact ⟨rfl, hbel⟩
theorem eq1Pe_any (y0 : ByteArray) (y1 : List Et) (y2 : ByteArray) (a1 a1' : Option Addr) (c1 c1' : Nat) (w : World) (hb1 : SrcEt none w a1 y1) (hb1' : SrcEt none w a1' y1) (hn1 : wtEt y1 ≤ 1048576) :
  Calls Tryz.prog 70 #[.agg #[.string y0, .slice a1 y1.length c1, .string y2], .agg #[.string y0, .slice a1' y1.length c1', .string y2]] w fun e w' => e = .returned (.bool true) ∧ Below w.heap.size w w' := by

 have HEQ1 := Lib.hid fun (W : World) (h : Below w.heap.size w W) => eqEt_any a1 a1' c1 c1' y1 W (hb1.below h) (hb1'.below h) hn1
 clear hb1 hb1' hn1
 have HB0 : Hid (Below w.heap.size w ((w.alloc (.cells #[.string y0, .slice a1 y1.length c1, .string y2] 90)).alloc (.cells #[.string y0, .slice a1' y1.length c1', .string y2] 90))) := ((Below.refl _ _).alloc (Nat.le_refl _) _).alloc (by simp) _
 go_enter Tryz.func70, Tryz.ntmps70
 go_wp2_with (go_at_call 10; refine (HEQ1.out _ (by first | exact HB0.out | exact HB0.out.drew)).mono ?_; rintro e w1 ⟨rfl, hl1⟩; refine Hid.out ?_)
 refine Lib.hid ?_
 have HB2 : Hid (Below w.heap.size w w1) := by first | exact HB0.out.trans (hl1.mono HB0.out.size) | exact HB0.out.drew.trans (hl1.mono HB0.out.size)
 obtain ⟨k1, k2⟩ := bcell hl1
 have p1_2 : w1.cell? ⟨w.heap.size, 2, none⟩ = some (.string y2) := (k1 _ _ (by first | (simp; done) | (simp; omega))).trans (by simp [go_sem])
 have p'1_2 : w1.cell? ⟨w.heap.size + 1, 2, none⟩ = some (.string y2) := (k1 _ _ (by first | (simp; done) | (simp; omega))).trans (by simp [go_sem])
 clear k1 k2
 clear hl1
 go_wp2
 go_ret
 first
  | exact ⟨by first | rfl | simp, HB2.out⟩
  | exact ⟨by first | rfl | simp, HB2.out.drew⟩
  | exact ⟨by first | rfl | simp, below_drewN HB2.out _⟩
theorem eqPe_any (a a' : Option Addr) (c c' : Nat) (l : List Pe) (w : World) (hb : SrcPe none w a l) (hb' : SrcPe none w a' l) (hn : wtPe l ≤ 1048576) :
  Calls Tryz.prog 33 #[.slice a l.length c, .slice a' l.length c'] w fun e w' => e = .returned (.bool true) ∧ Below w.heap.size w w' := by
 have hl := wtPe_len l
 have hn1 : l.length ≤ 1048576 := by omega
 have HB : Hid (SrcPe none w a l) := hb
 have HB' : Hid (SrcPe none w a' l) := hb'
 clear hb hb' hl
 go_enter Tryz.func33, Tryz.ntmps33
 go_wp2
 go_loopw [5] (fun i wr => ∃ k : Nat, k ≤ l.length ∧ i = .int .i64 (k : Int) ∧ Below w.heap.size w wr) (fun i _ => l.length - (intOf i).toNat)
 case atStart => exact ⟨0, Nat.zero_le _, rfl, Below.refl _ _⟩
 case round =>
  obtain ⟨k, hk, rfl, hbel⟩ := hrel
  have HBE : Hid (Below w.heap.size w wr) := hbel
  by_cases hlt : k < l.length
  ·obtain ⟨x, hx⟩ : ∃ x, l[k]? = some x := ⟨_, List.getElem?_eq_getElem hlt⟩
   have hwx := wtPe_mem (List.mem_of_getElem? hx)
   rcases HB.out with ⟨_, h⟩ | ⟨b, o, rfl, _, hc⟩
   ·rw [h] at hlt; simp at hlt
   rcases HB'.out with ⟨_, h⟩ | ⟨b', o', rfl, _, hc'⟩
   ·rw [h] at hlt; simp at hlt
   have hlt' : (k : Int) < (l.length : Int) := by omega
   have hk0 : (0 : Int) ≤ (k : Int) := by omega
   obtain ⟨a1, c1, e0, e1, e2, s1, _⟩ := hc k x hx
   obtain ⟨a1', c1', e0', e1', e2', s1', _⟩ := hc' k x hx
   have K : ∀ {W : World} {q p v}, Below w.heap.size w W → w.cell? ⟨q, p, none⟩ = some v → W.cell? ⟨q, p, none⟩ = some v := fun {W q p v} hW h => (hW.cell (p := ⟨q, p, none⟩) (World.block_lt_of_cell? _ _ h)).trans h
   have HC : Hid (∀ W : World, Below w.heap.size w W → (W.cell? ⟨b, o + k * 3, none⟩ = some (.string x.fPath) ∧ W.cell? ⟨b, o + k * 3 + 1, none⟩ = some (.slice a1 x.fTree.length c1) ∧ W.cell? ⟨b, o + k * 3 + 2, none⟩ = some (.string x.fFrom)) ∧ W.cell? ⟨b', o' + k * 3, none⟩ = some (.string x.fPath) ∧ W.cell? ⟨b', o' + k * 3 + 1, none⟩ = some (.slice a1' x.fTree.length c1') ∧ W.cell? ⟨b', o' + k * 3 + 2, none⟩ = some (.string x.fFrom)) := fun W h => ⟨⟨K h e0, K h e1, K h e2⟩, K h e0', K h e1', K h e2'⟩
   have HEQ := Lib.hid fun (W : World) (h : Below w.heap.size w W) => eq1Pe_any x.fPath x.fTree x.fFrom a1 a1' c1 c1' W (s1.below h) (s1'.below h) (by unfold wt1Pe at hwx; omega)
   obtain ⟨z0, hz0⟩ : ∃ z, x.fPath = z := ⟨_, rfl⟩
   obtain ⟨z1, hz1⟩ : ∃ z, x.fTree.length = z := ⟨_, rfl⟩
   obtain ⟨z2, hz2⟩ : ∃ z, x.fFrom = z := ⟨_, rfl⟩
   rw [hz0, hz1, hz2] at HC HEQ
   clear hbel hc hc' hx HB HB' hz0 hz1 hz2 e0 e1 e2 s1 e0' e1' e2' s1' K hwx
   go_wp2_with fail
   go_region_held3 (fun W => (W.cell? ⟨b, o + k * 3, none⟩ = some (.string z0) ∧ W.cell? ⟨b, o + k * 3 + 1, none⟩ = some (.slice a1 z1 c1) ∧ W.cell? ⟨b, o + k * 3 + 2, none⟩ = some (.string z2)) ∧ W.cell? ⟨b', o' + k * 3, none⟩ = some (.string z0) ∧ W.cell? ⟨b', o' + k * 3 + 1, none⟩ = some (.slice a1' z1 c1') ∧ W.cell? ⟨b', o' + k * 3 + 2, none⟩ = some (.string z2))
    (first | exact HC.out _ HBE.out.drew | exact HC.out _ hb2 | exact HC.out _ HBE.out | go_keep)
    (((go_at_call 70; refine (HEQ.out _ HBE.out.drew).mono ?_; rintro e w2 ⟨rfl, hl2⟩; have hb2 : Below w.heap.size w w2 := HBE.out.drew.trans (hl2.mono HBE.out.size))))
   go_wp2_with fail
   go_roundw
   case rel => exact ⟨k + 1, by omega, by go_num, hb2⟩
   case measure => simp [intOf]; omega
  ·have hlt' : ¬ (k : Int) < (l.length : Int) := by omega
   go_wp2
   go_ret
   exact ⟨rfl, hbel⟩
theorem eq1Nx_any (y0 : ByteArray) (y1 : ByteArray)  (w : World)  :
  Calls Tryz.prog 71 #[.agg #[.string y0, .string y1], .agg #[.string y0, .string y1]] w fun e w' => e = .returned (.bool true) ∧ Below w.heap.size w w' := by

 have HB0 : Hid (Below w.heap.size w ((w.alloc (.cells #[.string y0, .string y1] 92)).alloc (.cells #[.string y0, .string y1] 92))) := ((Below.refl _ _).alloc (Nat.le_refl _) _).alloc (by simp) _
 go_enter Tryz.func71, Tryz.ntmps71
 go_wp2
 go_ret
 first
  | exact ⟨by first | rfl | simp, HB0.out⟩
  | exact ⟨by first | rfl | simp, HB0.out.drew⟩
  | exact ⟨by first | rfl | simp, below_drewN HB0.out _⟩
theorem eqNx_any (a a' : Option Addr) (c c' : Nat) (l : List Nx) (w : World) (hb : SrcNx none w a l) (hb' : SrcNx none w a' l) (hn : wtNx l ≤ 1048576) :
  Calls Tryz.prog 34 #[.slice a l.length c, .slice a' l.length c'] w fun e w' => e = .returned (.bool true) ∧ Below w.heap.size w w' := by
 have hl := wtNx_len l
 have hn1 : l.length ≤ 1048576 := by omega
 have HB : Hid (SrcNx none w a l) := hb
 have HB' : Hid (SrcNx none w a' l) := hb'
 clear hb hb' hl
 go_enter Tryz.func34, Tryz.ntmps34
 go_wp2
 go_loopw [5] (fun i wr => ∃ k : Nat, k ≤ l.length ∧ i = .int .i64 (k : Int) ∧ Below w.heap.size w wr) (fun i _ => l.length - (intOf i).toNat)
 case atStart => exact ⟨0, Nat.zero_le _, rfl, Below.refl _ _⟩
 case round =>
  obtain ⟨k, hk, rfl, hbel⟩ := hrel
  have HBE : Hid (Below w.heap.size w wr) := hbel
  by_cases hlt : k < l.length
  ·obtain ⟨x, hx⟩ : ∃ x, l[k]? = some x := ⟨_, List.getElem?_eq_getElem hlt⟩
   have hwx := wtNx_mem (List.mem_of_getElem? hx)
   rcases HB.out with ⟨_, h⟩ | ⟨b, o, rfl, _, hc⟩
   ·rw [h] at hlt; simp at hlt
   rcases HB'.out with ⟨_, h⟩ | ⟨b', o', rfl, _, hc'⟩
   ·rw [h] at hlt; simp at hlt
   have hlt' : (k : Int) < (l.length : Int) := by omega
   have hk0 : (0 : Int) ≤ (k : Int) := by omega
   obtain ⟨e0, e1⟩ := hc k x hx
   obtain ⟨e0', e1'⟩ := hc' k x hx
   have K : ∀ {W : World} {q p v}, Below w.heap.size w W → w.cell? ⟨q, p, none⟩ = some v → W.cell? ⟨q, p, none⟩ = some v := fun {W q p v} hW h => (hW.cell (p := ⟨q, p, none⟩) (World.block_lt_of_cell? _ _ h)).trans h
   have HC : Hid (∀ W : World, Below w.heap.size w W → (W.cell? ⟨b, o + k * 2, none⟩ = some (.string x.fName) ∧ W.cell? ⟨b, o + k * 2 + 1, none⟩ = some (.string x.fPath)) ∧ W.cell? ⟨b', o' + k * 2, none⟩ = some (.string x.fName) ∧ W.cell? ⟨b', o' + k * 2 + 1, none⟩ = some (.string x.fPath)) := fun W h => ⟨⟨K h e0, K h e1⟩, K h e0', K h e1'⟩
   have HEQ := Lib.hid fun (W : World) (h : Below w.heap.size w W) => eq1Nx_any x.fName x.fPath  W 
   obtain ⟨z0, hz0⟩ : ∃ z, x.fName = z := ⟨_, rfl⟩
   obtain ⟨z1, hz1⟩ : ∃ z, x.fPath = z := ⟨_, rfl⟩
   rw [hz0, hz1] at HC HEQ
   clear hbel hc hc' hx HB HB' hz0 hz1 e0 e1 e0' e1' K hwx
   go_wp2_with fail
   go_region_held3 (fun W => (W.cell? ⟨b, o + k * 2, none⟩ = some (.string z0) ∧ W.cell? ⟨b, o + k * 2 + 1, none⟩ = some (.string z1)) ∧ W.cell? ⟨b', o' + k * 2, none⟩ = some (.string z0) ∧ W.cell? ⟨b', o' + k * 2 + 1, none⟩ = some (.string z1))
    (first | exact HC.out _ HBE.out.drew | exact HC.out _ hb2 | exact HC.out _ HBE.out | go_keep)
    (((go_at_call 71; refine (HEQ.out _ HBE.out.drew).mono ?_; rintro e w2 ⟨rfl, hl2⟩; have hb2 : Below w.heap.size w w2 := HBE.out.drew.trans (hl2.mono HBE.out.size))))
   go_wp2_with fail
   go_roundw
   case rel => exact ⟨k + 1, by omega, by go_num, hb2⟩
   case measure => simp [intOf]; omega
  ·have hlt' : ¬ (k : Int) < (l.length : Int) := by omega
   go_wp2
   go_ret
   exact ⟨rfl, hbel⟩
theorem eq1Wo_any (y0 : List It) (y1 : List Pr) (y2 : List Pe) (y3 : List Nx) (a0 a0' : Option Addr) (c0 c0' : Nat) (a1 a1' : Option Addr) (c1 c1' : Nat) (a2 a2' : Option Addr) (c2 c2' : Nat) (a3 a3' : Option Addr) (c3 c3' : Nat) (w : World) (hb0 : SrcIt none w a0 y0) (hb0' : SrcIt none w a0' y0) (hn0 : wtIt y0 ≤ 1048576) (hb1 : SrcPr none w a1 y1) (hb1' : SrcPr none w a1' y1) (hn1 : wtPr y1 ≤ 1048576) (hb2 : SrcPe none w a2 y2) (hb2' : SrcPe none w a2' y2) (hn2 : wtPe y2 ≤ 1048576) (hb3 : SrcNx none w a3 y3) (hb3' : SrcNx none w a3' y3) (hn3 : wtNx y3 ≤ 1048576) :
  Calls Tryz.prog 11 #[.agg #[.slice a0 y0.length c0, .slice a1 y1.length c1, .slice a2 y2.length c2, .slice a3 y3.length c3], .agg #[.slice a0' y0.length c0', .slice a1' y1.length c1', .slice a2' y2.length c2', .slice a3' y3.length c3']] w fun e w' => e = .returned (.bool true) ∧ Below w.heap.size w w' := by

 have HEQ0 := Lib.hid fun (W : World) (h : Below w.heap.size w W) => eqIt_any a0 a0' c0 c0' y0 W (hb0.below h) (hb0'.below h) hn0
 have HEQ1 := Lib.hid fun (W : World) (h : Below w.heap.size w W) => eqPr_any a1 a1' c1 c1' y1 W (hb1.below h) (hb1'.below h) hn1
 have HEQ2 := Lib.hid fun (W : World) (h : Below w.heap.size w W) => eqPe_any a2 a2' c2 c2' y2 W (hb2.below h) (hb2'.below h) hn2
 have HEQ3 := Lib.hid fun (W : World) (h : Below w.heap.size w W) => eqNx_any a3 a3' c3 c3' y3 W (hb3.below h) (hb3'.below h) hn3
 clear hb0 hb0' hn0 hb1 hb1' hn1 hb2 hb2' hn2 hb3 hb3' hn3
 have HB0 : Hid (Below w.heap.size w ((w.alloc (.cells #[.slice a0 y0.length c0, .slice a1 y1.length c1, .slice a2 y2.length c2, .slice a3 y3.length c3] 39)).alloc (.cells #[.slice a0' y0.length c0', .slice a1' y1.length c1', .slice a2' y2.length c2', .slice a3' y3.length c3'] 39))) := ((Below.refl _ _).alloc (Nat.le_refl _) _).alloc (by simp) _
 go_enter Tryz.func11, Tryz.ntmps11
 go_wp2_with (go_at_call 31; refine (HEQ0.out _ (by first | exact HB0.out | exact HB0.out.drew)).mono ?_; rintro e w0 ⟨rfl, hl0⟩; refine Hid.out ?_)
 refine Lib.hid ?_
 have HB1 : Hid (Below w.heap.size w w0) := by first | exact HB0.out.trans (hl0.mono HB0.out.size) | exact HB0.out.drew.trans (hl0.mono HB0.out.size)
 obtain ⟨k1, k2⟩ := bcell hl0
 have p0_1 : w0.cell? ⟨w.heap.size, 1, none⟩ = some (.slice a1 y1.length c1) := (k1 _ _ (by first | (simp; done) | (simp; omega))).trans (by simp [go_sem])
 have p'0_1 : w0.cell? ⟨w.heap.size + 1, 1, none⟩ = some (.slice a1' y1.length c1') := (k1 _ _ (by first | (simp; done) | (simp; omega))).trans (by simp [go_sem])
 have p0_2 : w0.cell? ⟨w.heap.size, 2, none⟩ = some (.slice a2 y2.length c2) := (k1 _ _ (by first | (simp; done) | (simp; omega))).trans (by simp [go_sem])
 have p'0_2 : w0.cell? ⟨w.heap.size + 1, 2, none⟩ = some (.slice a2' y2.length c2') := (k1 _ _ (by first | (simp; done) | (simp; omega))).trans (by simp [go_sem])
 have p0_3 : w0.cell? ⟨w.heap.size, 3, none⟩ = some (.slice a3 y3.length c3) := (k1 _ _ (by first | (simp; done) | (simp; omega))).trans (by simp [go_sem])
 have p'0_3 : w0.cell? ⟨w.heap.size + 1, 3, none⟩ = some (.slice a3' y3.length c3') := (k1 _ _ (by first | (simp; done) | (simp; omega))).trans (by simp [go_sem])
 clear k1 k2
 clear hl0
 go_wp2_with (go_at_call 32; refine (HEQ1.out _ (by first | exact HB1.out | exact HB1.out.drew)).mono ?_; rintro e w1 ⟨rfl, hl1⟩; refine Hid.out ?_)
 refine Lib.hid ?_
 have HB2 : Hid (Below w.heap.size w w1) := by first | exact HB1.out.trans (hl1.mono HB1.out.size) | exact HB1.out.drew.trans (hl1.mono HB1.out.size)
 obtain ⟨k1, k2⟩ := bcell hl1
 have p1_2 : w1.cell? ⟨w.heap.size, 2, none⟩ = some (.slice a2 y2.length c2) := (k1 _ _ (World.block_lt_of_cell? _ _ p0_2)).trans p0_2
 have p'1_2 : w1.cell? ⟨w.heap.size + 1, 2, none⟩ = some (.slice a2' y2.length c2') := (k1 _ _ (World.block_lt_of_cell? _ _ p'0_2)).trans p'0_2
 have p1_3 : w1.cell? ⟨w.heap.size, 3, none⟩ = some (.slice a3 y3.length c3) := (k1 _ _ (World.block_lt_of_cell? _ _ p0_3)).trans p0_3
 have p'1_3 : w1.cell? ⟨w.heap.size + 1, 3, none⟩ = some (.slice a3' y3.length c3') := (k1 _ _ (World.block_lt_of_cell? _ _ p'0_3)).trans p'0_3
 clear k1 k2
 clear hl1
 go_wp2_with (go_at_call 33; refine (HEQ2.out _ (by first | exact HB2.out | exact HB2.out.drew)).mono ?_; rintro e w2 ⟨rfl, hl2⟩; refine Hid.out ?_)
 refine Lib.hid ?_
 have HB3 : Hid (Below w.heap.size w w2) := by first | exact HB2.out.trans (hl2.mono HB2.out.size) | exact HB2.out.drew.trans (hl2.mono HB2.out.size)
 obtain ⟨k1, k2⟩ := bcell hl2
 have p2_3 : w2.cell? ⟨w.heap.size, 3, none⟩ = some (.slice a3 y3.length c3) := (k1 _ _ (World.block_lt_of_cell? _ _ p1_3)).trans p1_3
 have p'2_3 : w2.cell? ⟨w.heap.size + 1, 3, none⟩ = some (.slice a3' y3.length c3') := (k1 _ _ (World.block_lt_of_cell? _ _ p'1_3)).trans p'1_3
 clear k1 k2
 clear hl2
 go_wp2_with (go_at_call 34; refine (HEQ3.out _ (by first | exact HB3.out | exact HB3.out.drew)).mono ?_; rintro e w3 ⟨rfl, hl3⟩; refine Hid.out ?_)
 refine Lib.hid ?_
 have HB4 : Hid (Below w.heap.size w w3) := by first | exact HB3.out.trans (hl3.mono HB3.out.size) | exact HB3.out.drew.trans (hl3.mono HB3.out.size)
 clear hl3
 go_wp2
 go_ret
 first
  | exact ⟨by first | rfl | simp, HB4.out⟩
  | exact ⟨by first | rfl | simp, HB4.out.drew⟩
  | exact ⟨by first | rfl | simp, below_drewN HB4.out _⟩
end Go.Proofs.YthbgpfjbfkiljaaGreatDoor.ty
