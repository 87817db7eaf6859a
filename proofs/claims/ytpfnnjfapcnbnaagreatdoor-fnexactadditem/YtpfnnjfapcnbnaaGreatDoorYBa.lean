import Derived.Test.YtpfnnjfapcnbnaaGreatDoorYAa
import Derived.Deep.RegionHeld3
import Derived.Deep.QuietTactic
import Derived.BigQuiet
namespace Go.Proofs.YtpfnnjfapcnbnaaGreatDoor.ty
open Go.ChangeShapes Go.WideShapes Go.ChangeAt Go.RowKit Go.Deep
set_option linter.unusedVariables false
set_option linter.unusedSimpArgs false
set_option maxRecDepth 100000 in
theorem eqS_any (a a' : Option Addr) (c c' : Nat) (l : List ByteArray) (w : World) (hb : SrcS none w a l) (hb' : SrcS none w a' l) (hn : wtS l ≤ 1048576) :
  Calls Tryz.prog 123 #[.slice a l.length c, .slice a' l.length c'] w fun e w' => e = .returned (.bool true) ∧ Below w.heap.size w w' := by
 have hl := wtS_len l
 have hn1 : l.length ≤ 1048576 := by omega
 have HB : Hid (SrcS none w a l) := hb
 have HB' : Hid (SrcS none w a' l) := hb'
 clear hb hb' hn hl
 go_enter Tryz.func123, Tryz.ntmps123
 go_wp2
 go_loopw [5] (fun i wr => ∃ k : Nat, k ≤ l.length ∧ i = .int .i64 (k : Int) ∧ ∃ q, wr = w.drewN q) (fun i _ => l.length - (intOf i).toNat)
 case atStart => exact ⟨0, Nat.zero_le _, rfl, 0, rfl⟩
 case round =>
  obtain ⟨k, hk, rfl, q, rfl⟩ := hrel
  by_cases hlt : k < l.length
  ·obtain ⟨x, hx⟩ : ∃ x, l[k]? = some x := ⟨_, List.getElem?_eq_getElem hlt⟩
   rcases HB.out with ⟨_, h⟩ | ⟨b, off, rfl, _, hc⟩
   ·rw [h] at hlt; simp at hlt
   rcases HB'.out with ⟨_, h⟩ | ⟨b', off', rfl, _, hc'⟩
   ·rw [h] at hlt; simp at hlt
   have hck := hc k x hx
   have hck' := hc' k x hx
   have hlt' : (k : Int) < (l.length : Int) := by omega
   clear hc hc' hx HB HB'
   go_wp2
   go_quiet (fail)
   go_wp2
   go_roundw
   case rel => exact ⟨k + 1, by omega, by go_num, _, rfl⟩
   case measure => simp [intOf]; omega
  ·have hlt' : ¬ (k : Int) < (l.length : Int) := by omega
   go_wp2
   go_ret
   exact ⟨rfl, below_drewN (Below.refl _ _) _⟩
set_option maxRecDepth 100000 in
set_option maxHeartbeats 2000000 in
theorem eq1Et_any (y0 : ByteArray) (y1 : Int) (y2 : ByteArray) (y3 : Bool)  (w : World)  :
  Calls Tryz.prog 61 #[.agg #[.string y0, .int .i64 y1, .string y2, .bool y3], .agg #[.string y0, .int .i64 y1, .string y2, .bool y3]] w fun e w' => e = .returned (.bool true) ∧ Below w.heap.size w w' := by

 have HB0 : Hid (Below w.heap.size w ((w.alloc (.cells #[.string y0, .int .i64 y1, .string y2, .bool y3] 96)).alloc (.cells #[.string y0, .int .i64 y1, .string y2, .bool y3] 96))) := ((Below.refl _ _).alloc (Nat.le_refl _) _).alloc (by simp) _
 go_enter Tryz.func61, Tryz.ntmps61
 go_wp2
 go_ret
 first
  | exact ⟨by first | rfl | simp, HB0.out⟩
  | exact ⟨by first | rfl | simp, HB0.out.drew⟩
  | exact ⟨by first | rfl | simp, below_drewN HB0.out _⟩
set_option maxRecDepth 100000 in
set_option maxHeartbeats 4000000 in
theorem eqEt_any (a a' : Option Addr) (c c' : Nat) (l : List Et) (w : World) (hb : SrcEt none w a l) (hb' : SrcEt none w a' l) (hn : wtEt l ≤ 1048576) :
  Calls Tryz.prog 18 #[.slice a l.length c, .slice a' l.length c'] w fun e w' => e = .returned (.bool true) ∧ Below w.heap.size w w' := by
 have hl := wtEt_len l
 have hn1 : l.length ≤ 1048576 := by omega
 have HB : Hid (SrcEt none w a l) := hb
 have HB' : Hid (SrcEt none w a' l) := hb'
 clear hb hb' hl
 go_enter Tryz.func18, Tryz.ntmps18
 go_wp2
 go_loopw [5] (fun i wr => ∃ k : Nat, k ≤ l.length ∧ i = .int .i64 (k : Int) ∧ Below w.heap.size w wr) (fun i _ => l.length - (intOf i).toNat)
 case atStart => exact ⟨0, Nat.zero_le _, rfl, Below.refl _ _⟩
 case round =>
  obtain ⟨k, hk, rfl, hbel⟩ := hrel
  have HBE : Hid (Below w.heap.size w wr) := hbel
  by_cases hlt : k < l.length
  ·obtain ⟨x, hx⟩ : ∃ x, l[k]? = some x := ⟨_, List.getElem?_eq_getElem hlt⟩
   have hwx := wtEt_mem (List.mem_of_getElem? hx)
   rcases HB.out with ⟨_, h⟩ | ⟨b, o, rfl, _, hc⟩
   ·rw [h] at hlt; simp at hlt
   rcases HB'.out with ⟨_, h⟩ | ⟨b', o', rfl, _, hc'⟩
   ·rw [h] at hlt; simp at hlt
   have hlt' : (k : Int) < (l.length : Int) := by omega
   have hk0 : (0 : Int) ≤ (k : Int) := by omega
   obtain ⟨e0, e1, e2, e3⟩ := hc k x hx
   obtain ⟨e0', e1', e2', e3'⟩ := hc' k x hx
   have K : ∀ {W : World} {q p v}, Below w.heap.size w W → w.cell? ⟨q, p, none⟩ = some v → W.cell? ⟨q, p, none⟩ = some v := fun {W q p v} hW h => (hW.cell (p := ⟨q, p, none⟩) (World.block_lt_of_cell? _ _ h)).trans h
   have HC : Hid (∀ W : World, Below w.heap.size w W → (W.cell? ⟨b, o + k * 4, none⟩ = some (.string x.fPath) ∧ W.cell? ⟨b, o + k * 4 + 1, none⟩ = some (.int .i64 x.fKind) ∧ W.cell? ⟨b, o + k * 4 + 2, none⟩ = some (.string x.fData) ∧ W.cell? ⟨b, o + k * 4 + 3, none⟩ = some (.bool x.fExec)) ∧ W.cell? ⟨b', o' + k * 4, none⟩ = some (.string x.fPath) ∧ W.cell? ⟨b', o' + k * 4 + 1, none⟩ = some (.int .i64 x.fKind) ∧ W.cell? ⟨b', o' + k * 4 + 2, none⟩ = some (.string x.fData) ∧ W.cell? ⟨b', o' + k * 4 + 3, none⟩ = some (.bool x.fExec)) := fun W h => ⟨⟨K h e0, K h e1, K h e2, K h e3⟩, K h e0', K h e1', K h e2', K h e3'⟩
   have HEQ : Hid (∀ W, Below w.heap.size w W → Calls Tryz.prog 61 #[.agg #[.string x.fPath, .int .i64 x.fKind, .string x.fData, .bool x.fExec], .agg #[.string x.fPath, .int .i64 x.fKind, .string x.fData, .bool x.fExec]] W fun e w' => e = .returned (.bool true) ∧ Below W.heap.size W w') := fun W h => eq1Et_any x.fPath x.fKind x.fData x.fExec  W 
   obtain ⟨z0, hz0⟩ : ∃ z, x.fPath = z := ⟨_, rfl⟩
   obtain ⟨z1, hz1⟩ : ∃ z, x.fKind = z := ⟨_, rfl⟩
   obtain ⟨z2, hz2⟩ : ∃ z, x.fData = z := ⟨_, rfl⟩
   obtain ⟨z3, hz3⟩ : ∃ z, x.fExec = z := ⟨_, rfl⟩
   rw [hz0, hz1, hz2, hz3] at HC HEQ
   clear hbel hc hc' hx HB HB' hz0 hz1 hz2 hz3 e0 e1 e2 e3 e0' e1' e2' e3' K hwx
   go_wp2_with fail
   go_region_held3 (fun W => (W.cell? ⟨b, o + k * 4, none⟩ = some (.string z0) ∧ W.cell? ⟨b, o + k * 4 + 1, none⟩ = some (.int .i64 z1) ∧ W.cell? ⟨b, o + k * 4 + 2, none⟩ = some (.string z2) ∧ W.cell? ⟨b, o + k * 4 + 3, none⟩ = some (.bool z3)) ∧ W.cell? ⟨b', o' + k * 4, none⟩ = some (.string z0) ∧ W.cell? ⟨b', o' + k * 4 + 1, none⟩ = some (.int .i64 z1) ∧ W.cell? ⟨b', o' + k * 4 + 2, none⟩ = some (.string z2) ∧ W.cell? ⟨b', o' + k * 4 + 3, none⟩ = some (.bool z3))
    (first | exact HC.out _ HBE.out.drew | exact HC.out _ hb2 | exact HC.out _ HBE.out | go_keep)
    (((go_at_call 61; refine (HEQ.out _ HBE.out.drew).mono ?_; rintro e w2 ⟨rfl, hl2⟩; have hb2 : Below w.heap.size w w2 := HBE.out.drew.trans (hl2.mono HBE.out.size))))
   go_wp2_with fail
   go_roundw
   case rel => exact ⟨k + 1, by omega, by go_num, hb2⟩
   case measure => simp [intOf]; omega
  ·have hlt' : ¬ (k : Int) < (l.length : Int) := by omega
   go_wp2
   go_ret
   exact ⟨rfl, hbel⟩
set_option maxRecDepth 100000 in
set_option maxHeartbeats 2000000 in
theorem eq1It_any (y0 : ByteArray) (y1 : ByteArray) (y2 : List ByteArray) (y3 : ByteArray) (y4 : List Et) (a2 a2' : Option Addr) (c2 c2' : Nat) (a4 a4' : Option Addr) (c4 c4' : Nat) (w : World) (hb2 : SrcS none w a2 y2) (hb2' : SrcS none w a2' y2) (hn2 : wtS y2 ≤ 1048576) (hb4 : SrcEt none w a4 y4) (hb4' : SrcEt none w a4' y4) (hn4 : wtEt y4 ≤ 1048576) :
  Calls Tryz.prog 60 #[.agg #[.string y0, .string y1, .slice a2 y2.length c2, .string y3, .slice a4 y4.length c4], .agg #[.string y0, .string y1, .slice a2' y2.length c2', .string y3, .slice a4' y4.length c4']] w fun e w' => e = .returned (.bool true) ∧ Below w.heap.size w w' := by

 have HEQ2 : Hid (∀ W, Below w.heap.size w W → Calls Tryz.prog 123 #[.slice a2 y2.length c2, .slice a2' y2.length c2'] W fun e w' => e = .returned (.bool true) ∧ Below W.heap.size W w') := fun W h => eqS_any a2 a2' c2 c2' y2 W (hb2.below h) (hb2'.below h) hn2
 have HEQ4 : Hid (∀ W, Below w.heap.size w W → Calls Tryz.prog 18 #[.slice a4 y4.length c4, .slice a4' y4.length c4'] W fun e w' => e = .returned (.bool true) ∧ Below W.heap.size W w') := fun W h => eqEt_any a4 a4' c4 c4' y4 W (hb4.below h) (hb4'.below h) hn4
 clear hb2 hb2' hn2 hb4 hb4' hn4
 have HB0 : Hid (Below w.heap.size w ((w.alloc (.cells #[.string y0, .string y1, .slice a2 y2.length c2, .string y3, .slice a4 y4.length c4] 94)).alloc (.cells #[.string y0, .string y1, .slice a2' y2.length c2', .string y3, .slice a4' y4.length c4'] 94))) := ((Below.refl _ _).alloc (Nat.le_refl _) _).alloc (by simp) _
 go_enter Tryz.func60, Tryz.ntmps60
 go_wp2_with (go_at_call 123; refine (HEQ2.out _ (by first | exact HB0.out | exact HB0.out.drew)).mono ?_; rintro e w2 ⟨rfl, hl2⟩; refine Hid.out ?_)
 refine Lib.hid ?_
 have HB3 : Hid (Below w.heap.size w w2) := by first | exact HB0.out.trans (hl2.mono HB0.out.size) | exact HB0.out.drew.trans (hl2.mono HB0.out.size)
 obtain ⟨k1, k2⟩ := bcell hl2
 have p2_3 : w2.cell? ⟨w.heap.size, 3, none⟩ = some (.string y3) := (k1 _ _ (by first | (simp; done) | (simp; omega))).trans (by simp [go_sem])
 have p'2_3 : w2.cell? ⟨w.heap.size + 1, 3, none⟩ = some (.string y3) := (k1 _ _ (by first | (simp; done) | (simp; omega))).trans (by simp [go_sem])
 have p2_4 : w2.cell? ⟨w.heap.size, 4, none⟩ = some (.slice a4 y4.length c4) := (k1 _ _ (by first | (simp; done) | (simp; omega))).trans (by simp [go_sem])
 have p'2_4 : w2.cell? ⟨w.heap.size + 1, 4, none⟩ = some (.slice a4' y4.length c4') := (k1 _ _ (by first | (simp; done) | (simp; omega))).trans (by simp [go_sem])
 clear k1 k2
 clear hl2
 go_wp2_with (go_at_call 18; refine (HEQ4.out _ (by first | exact HB3.out | exact HB3.out.drew)).mono ?_; rintro e w4 ⟨rfl, hl4⟩; refine Hid.out ?_)
 refine Lib.hid ?_
 have HB5 : Hid (Below w.heap.size w w4) := by first | exact HB3.out.trans (hl4.mono HB3.out.size) | exact HB3.out.drew.trans (hl4.mono HB3.out.size)
 clear hl4
 go_wp2
 go_ret
 first
  | exact ⟨by first | rfl | simp, HB5.out⟩
  | exact ⟨by first | rfl | simp, HB5.out.drew⟩
  | exact ⟨by first | rfl | simp, below_drewN HB5.out _⟩
set_option maxRecDepth 100000 in
set_option maxHeartbeats 4000000 in
theorem eqIt_any (a a' : Option Addr) (c c' : Nat) (l : List It) (w : World) (hb : SrcIt none w a l) (hb' : SrcIt none w a' l) (hn : wtIt l ≤ 1048576) :
  Calls Tryz.prog 17 #[.slice a l.length c, .slice a' l.length c'] w fun e w' => e = .returned (.bool true) ∧ Below w.heap.size w w' := by
 have hl := wtIt_len l
 have hn1 : l.length ≤ 1048576 := by omega
 have HB : Hid (SrcIt none w a l) := hb
 have HB' : Hid (SrcIt none w a' l) := hb'
 clear hb hb' hl
 go_enter Tryz.func17, Tryz.ntmps17
 go_wp2
 go_loopw [5] (fun i wr => ∃ k : Nat, k ≤ l.length ∧ i = .int .i64 (k : Int) ∧ Below w.heap.size w wr) (fun i _ => l.length - (intOf i).toNat)
 case atStart => exact ⟨0, Nat.zero_le _, rfl, Below.refl _ _⟩
 case round =>
  obtain ⟨k, hk, rfl, hbel⟩ := hrel
  have HBE : Hid (Below w.heap.size w wr) := hbel
  by_cases hlt : k < l.length
  ·obtain ⟨x, hx⟩ : ∃ x, l[k]? = some x := ⟨_, List.getElem?_eq_getElem hlt⟩
   have hwx := wtIt_mem (List.mem_of_getElem? hx)
   rcases HB.out with ⟨_, h⟩ | ⟨b, o, rfl, _, hc⟩
   ·rw [h] at hlt; simp at hlt
   rcases HB'.out with ⟨_, h⟩ | ⟨b', o', rfl, _, hc'⟩
   ·rw [h] at hlt; simp at hlt
   have hlt' : (k : Int) < (l.length : Int) := by omega
   have hk0 : (0 : Int) ≤ (k : Int) := by omega
   obtain ⟨a2, c2, a4, c4, e0, e1, e2, e3, e4, s2, s4, _, _⟩ := hc k x hx
   obtain ⟨a2', c2', a4', c4', e0', e1', e2', e3', e4', s2', s4', _, _⟩ := hc' k x hx
   have K : ∀ {W : World} {q p v}, Below w.heap.size w W → w.cell? ⟨q, p, none⟩ = some v → W.cell? ⟨q, p, none⟩ = some v := fun {W q p v} hW h => (hW.cell (p := ⟨q, p, none⟩) (World.block_lt_of_cell? _ _ h)).trans h
   have HC : Hid (∀ W : World, Below w.heap.size w W → (W.cell? ⟨b, o + k * 5, none⟩ = some (.string x.fPath) ∧ W.cell? ⟨b, o + k * 5 + 1, none⟩ = some (.string x.fSum) ∧ W.cell? ⟨b, o + k * 5 + 2, none⟩ = some (.slice a2 x.fRefs.length c2) ∧ W.cell? ⟨b, o + k * 5 + 3, none⟩ = some (.string x.fFrom) ∧ W.cell? ⟨b, o + k * 5 + 4, none⟩ = some (.slice a4 x.fTree.length c4)) ∧ W.cell? ⟨b', o' + k * 5, none⟩ = some (.string x.fPath) ∧ W.cell? ⟨b', o' + k * 5 + 1, none⟩ = some (.string x.fSum) ∧ W.cell? ⟨b', o' + k * 5 + 2, none⟩ = some (.slice a2' x.fRefs.length c2') ∧ W.cell? ⟨b', o' + k * 5 + 3, none⟩ = some (.string x.fFrom) ∧ W.cell? ⟨b', o' + k * 5 + 4, none⟩ = some (.slice a4' x.fTree.length c4')) := fun W h => ⟨⟨K h e0, K h e1, K h e2, K h e3, K h e4⟩, K h e0', K h e1', K h e2', K h e3', K h e4'⟩
   have HEQ : Hid (∀ W, Below w.heap.size w W → Calls Tryz.prog 60 #[.agg #[.string x.fPath, .string x.fSum, .slice a2 x.fRefs.length c2, .string x.fFrom, .slice a4 x.fTree.length c4], .agg #[.string x.fPath, .string x.fSum, .slice a2' x.fRefs.length c2', .string x.fFrom, .slice a4' x.fTree.length c4']] W fun e w' => e = .returned (.bool true) ∧ Below W.heap.size W w') := fun W h => eq1It_any x.fPath x.fSum x.fRefs x.fFrom x.fTree a2 a2' c2 c2' a4 a4' c4 c4' W (s2.below h) (s2'.below h) (by unfold wt1It at hwx; omega) (s4.below h) (s4'.below h) (by unfold wt1It at hwx; omega)
   obtain ⟨z0, hz0⟩ : ∃ z, x.fPath = z := ⟨_, rfl⟩
   obtain ⟨z1, hz1⟩ : ∃ z, x.fSum = z := ⟨_, rfl⟩
   obtain ⟨z2, hz2⟩ : ∃ z, x.fRefs.length = z := ⟨_, rfl⟩
   obtain ⟨z3, hz3⟩ : ∃ z, x.fFrom = z := ⟨_, rfl⟩
   obtain ⟨z4, hz4⟩ : ∃ z, x.fTree.length = z := ⟨_, rfl⟩
   rw [hz0, hz1, hz2, hz3, hz4] at HC HEQ
   clear hbel hc hc' hx HB HB' hz0 hz1 hz2 hz3 hz4 e0 e1 e2 e3 e4 s2 s4 e0' e1' e2' e3' e4' s2' s4' K hwx
   go_wp2_with fail
   go_region_held3 (fun W => (W.cell? ⟨b, o + k * 5, none⟩ = some (.string z0) ∧ W.cell? ⟨b, o + k * 5 + 1, none⟩ = some (.string z1) ∧ W.cell? ⟨b, o + k * 5 + 2, none⟩ = some (.slice a2 z2 c2) ∧ W.cell? ⟨b, o + k * 5 + 3, none⟩ = some (.string z3) ∧ W.cell? ⟨b, o + k * 5 + 4, none⟩ = some (.slice a4 z4 c4)) ∧ W.cell? ⟨b', o' + k * 5, none⟩ = some (.string z0) ∧ W.cell? ⟨b', o' + k * 5 + 1, none⟩ = some (.string z1) ∧ W.cell? ⟨b', o' + k * 5 + 2, none⟩ = some (.slice a2' z2 c2') ∧ W.cell? ⟨b', o' + k * 5 + 3, none⟩ = some (.string z3) ∧ W.cell? ⟨b', o' + k * 5 + 4, none⟩ = some (.slice a4' z4 c4'))
    (first | exact HC.out _ HBE.out.drew | exact HC.out _ hb2 | exact HC.out _ HBE.out | go_keep)
    (((go_at_call 60; refine (HEQ.out _ HBE.out.drew).mono ?_; rintro e w2 ⟨rfl, hl2⟩; have hb2 : Below w.heap.size w w2 := HBE.out.drew.trans (hl2.mono HBE.out.size))))
   go_wp2_with fail
   go_roundw
   case rel => exact ⟨k + 1, by omega, by go_num, hb2⟩
   case measure => simp [intOf]; omega
  ·have hlt' : ¬ (k : Int) < (l.length : Int) := by omega
   go_wp2
   go_ret
   exact ⟨rfl, hbel⟩
end Go.Proofs.YtpfnnjfapcnbnaaGreatDoor.ty
