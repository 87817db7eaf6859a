import Derived.Test.YthkngngkmbohoaaGreatDoorYA
import Derived.Deep.RegionHeld3
import Derived.Deep.QuietTactic
import Derived.BigQuiet
namespace Go.Proofs.YthkngngkmbohoaaGreatDoor.ty
open Go.ChangeShapes Go.WideShapes Go.ChangeAt Go.RowKit Go.Deep
set_option linter.unusedVariables false
set_option linter.unusedSimpArgs false

/-! ### Equal lists -/

set_option maxRecDepth 100000 in
theorem eqS_any (a a' : Option Addr) (c c' : Nat) (l : List ByteArray) (w : World) (hb : SrcS none w a l) (hb' : SrcS none w a' l) (hn : wtS l ≤ 1048576) :
    Calls Tryz.prog 10 #[.slice a l.length c, .slice a' l.length c'] w fun e w' => e = .returned (.bool true) ∧ Below w.heap.size w w' := by
  have hl := wtS_len l
  have hn1 : l.length ≤ 1048576 := by omega
  have HB : Hid (SrcS none w a l) := hb
  have HB' : Hid (SrcS none w a' l) := hb'
  clear hb hb' hn hl
  go_enter Tryz.func10, Tryz.ntmps10
  go_wp2
  go_loopw [5] (fun i wr => ∃ k : Nat, k ≤ l.length ∧ i = .int .i64 (k : Int) ∧ ∃ q, wr = w.drewN q) (fun i _ => l.length - (intOf i).toNat)
  case atStart => exact ⟨0, Nat.zero_le _, rfl, 0, rfl⟩
  case round =>
    obtain ⟨k, hk, rfl, q, rfl⟩ := hrel
    by_cases hlt : k < l.length
    · obtain ⟨x, hx⟩ : ∃ x, l[k]? = some x := ⟨_, List.getElem?_eq_getElem hlt⟩
      rcases HB.out with ⟨_, h⟩ | ⟨b, off, rfl, _, hc⟩
      · rw [h] at hlt; simp at hlt
      rcases HB'.out with ⟨_, h⟩ | ⟨b', off', rfl, _, hc'⟩
      · rw [h] at hlt; simp at hlt
      have hck := hc k x hx
      have hck' := hc' k x hx
      have hlt' : (k : Int) < (l.length : Int) := by omega
      clear hc hc' hx HB HB'
      go_wp2
      go_quiet (fail)
      go_wp2
      go_roundw
      case rel => exact ⟨k + 1, by omega, by go_num, _, rfl⟩
      case measure => simp [intOf]; omega
    · have hlt' : ¬ (k : Int) < (l.length : Int) := by omega
      go_wp2
      go_ret
      exact ⟨rfl, below_drewN (Below.refl _ _) _⟩

set_option maxRecDepth 100000 in
set_option maxHeartbeats 2000000 in
theorem eq1Op_any (y0 : ByteArray) (y1 : ByteArray) (y2 : ByteArray) (y3 : Bool) (y4 : List ByteArray) (a4 a4' : Option Addr) (c4 c4' : Nat) (w : World) (hb4 : SrcS none w a4 y4) (hb4' : SrcS none w a4' y4) (hn4 : wtS y4 ≤ 1048576) :
    Calls Tryz.prog 68 #[.agg #[.string y0, .string y1, .string y2, .bool y3, .slice a4 y4.length c4], .agg #[.string y0, .string y1, .string y2, .bool y3, .slice a4' y4.length c4']] w fun e w' => e = .returned (.bool true) ∧ Below w.heap.size w w' := by

  have HEQ4 : Hid (∀ W, Below w.heap.size w W → Calls Tryz.prog 10 #[.slice a4 y4.length c4, .slice a4' y4.length c4'] W fun e w' => e = .returned (.bool true) ∧ Below W.heap.size W w') := fun W h => eqS_any a4 a4' c4 c4' y4 W (hb4.below h) (hb4'.below h) hn4
  clear hb4 hb4' hn4
  have HB0 : Hid (Below w.heap.size w ((w.alloc (.cells #[.string y0, .string y1, .string y2, .bool y3, .slice a4 y4.length c4] 60)).alloc (.cells #[.string y0, .string y1, .string y2, .bool y3, .slice a4' y4.length c4'] 60))) := ((Below.refl _ _).alloc (Nat.le_refl _) _).alloc (by simp) _
  go_enter Tryz.func68, Tryz.ntmps68
  go_wp2_with (go_at_call 10; refine (HEQ4.out _ (by first | exact HB0.out | exact HB0.out.drew)).mono ?_; rintro e w4 ⟨rfl, hl4⟩; refine Hid.out ?_)
  refine Lib.hid ?_
  have HB5 : Hid (Below w.heap.size w w4) := by first | exact HB0.out.trans (hl4.mono HB0.out.size) | exact HB0.out.drew.trans (hl4.mono HB0.out.size)
  clear hl4
  go_wp2
  go_ret
  first
    | exact ⟨by first | rfl | simp, HB5.out⟩
    | exact ⟨by first | rfl | simp, HB5.out.drew⟩
    | exact ⟨by first | rfl | simp, below_drewN HB5.out _⟩

set_option maxRecDepth 100000 in
set_option maxHeartbeats 4000000 in
theorem eqOp_any (a a' : Option Addr) (c c' : Nat) (l : List Op) (w : World) (hb : SrcOp none w a l) (hb' : SrcOp none w a' l) (hn : wtOp l ≤ 1048576) :
    Calls Tryz.prog 46 #[.slice a l.length c, .slice a' l.length c'] w fun e w' => e = .returned (.bool true) ∧ Below w.heap.size w w' := by
  have hl := wtOp_len l
  have hn1 : l.length ≤ 1048576 := by omega
  have HB : Hid (SrcOp none w a l) := hb
  have HB' : Hid (SrcOp none w a' l) := hb'
  clear hb hb' hl
  go_enter Tryz.func46, Tryz.ntmps46
  go_wp2
  go_loopw [5] (fun i wr => ∃ k : Nat, k ≤ l.length ∧ i = .int .i64 (k : Int) ∧ Below w.heap.size w wr) (fun i _ => l.length - (intOf i).toNat)
  case atStart => exact ⟨0, Nat.zero_le _, rfl, Below.refl _ _⟩
  case round =>
    obtain ⟨k, hk, rfl, hbel⟩ := hrel
    have HBE : Hid (Below w.heap.size w wr) := hbel
    by_cases hlt : k < l.length
    · obtain ⟨x, hx⟩ : ∃ x, l[k]? = some x := ⟨_, List.getElem?_eq_getElem hlt⟩
      have hwx := wtOp_mem (List.mem_of_getElem? hx)
      rcases HB.out with ⟨_, h⟩ | ⟨b, o, rfl, _, hc⟩
      · rw [h] at hlt; simp at hlt
      rcases HB'.out with ⟨_, h⟩ | ⟨b', o', rfl, _, hc'⟩
      · rw [h] at hlt; simp at hlt
      have hlt' : (k : Int) < (l.length : Int) := by omega
      have hk0 : (0 : Int) ≤ (k : Int) := by omega
      obtain ⟨a4, c4, e0, e1, e2, e3, e4, s4⟩ := hc k x hx
      obtain ⟨a4', c4', e0', e1', e2', e3', e4', s4'⟩ := hc' k x hx
      have K : ∀ {W : World} {q p v}, Below w.heap.size w W → w.cell? ⟨q, p, none⟩ = some v → W.cell? ⟨q, p, none⟩ = some v := fun {W q p v} hW h => (hW.cell (p := ⟨q, p, none⟩) (World.block_lt_of_cell? _ _ h)).trans h
      have HC : Hid (∀ W : World, Below w.heap.size w W → (W.cell? ⟨b, o + k * 5, none⟩ = some (.string x.fName) ∧ W.cell? ⟨b, o + k * 5 + 1, none⟩ = some (.string x.fType) ∧ W.cell? ⟨b, o + k * 5 + 2, none⟩ = some (.string x.fDefault) ∧ W.cell? ⟨b, o + k * 5 + 3, none⟩ = some (.bool x.fGiven) ∧ W.cell? ⟨b, o + k * 5 + 4, none⟩ = some (.slice a4 x.fNeeds.length c4)) ∧ W.cell? ⟨b', o' + k * 5, none⟩ = some (.string x.fName) ∧ W.cell? ⟨b', o' + k * 5 + 1, none⟩ = some (.string x.fType) ∧ W.cell? ⟨b', o' + k * 5 + 2, none⟩ = some (.string x.fDefault) ∧ W.cell? ⟨b', o' + k * 5 + 3, none⟩ = some (.bool x.fGiven) ∧ W.cell? ⟨b', o' + k * 5 + 4, none⟩ = some (.slice a4' x.fNeeds.length c4')) := fun W h => ⟨⟨K h e0, K h e1, K h e2, K h e3, K h e4⟩, K h e0', K h e1', K h e2', K h e3', K h e4'⟩
      have HEQ : Hid (∀ W, Below w.heap.size w W → Calls Tryz.prog 68 #[.agg #[.string x.fName, .string x.fType, .string x.fDefault, .bool x.fGiven, .slice a4 x.fNeeds.length c4], .agg #[.string x.fName, .string x.fType, .string x.fDefault, .bool x.fGiven, .slice a4' x.fNeeds.length c4']] W fun e w' => e = .returned (.bool true) ∧ Below W.heap.size W w') := fun W h => eq1Op_any x.fName x.fType x.fDefault x.fGiven x.fNeeds a4 a4' c4 c4' W (s4.below h) (s4'.below h) (by unfold wt1Op at hwx; omega)
      obtain ⟨z0, hz0⟩ : ∃ z, x.fName = z := ⟨_, rfl⟩
      obtain ⟨z1, hz1⟩ : ∃ z, x.fType = z := ⟨_, rfl⟩
      obtain ⟨z2, hz2⟩ : ∃ z, x.fDefault = z := ⟨_, rfl⟩
      obtain ⟨z3, hz3⟩ : ∃ z, x.fGiven = z := ⟨_, rfl⟩
      obtain ⟨z4, hz4⟩ : ∃ z, x.fNeeds.length = z := ⟨_, rfl⟩
      rw [hz0, hz1, hz2, hz3, hz4] at HC HEQ
      clear hbel hc hc' hx HB HB' hz0 hz1 hz2 hz3 hz4 e0 e1 e2 e3 e4 s4 e0' e1' e2' e3' e4' s4' K hwx
      go_wp2_with fail
      go_region_held3 (fun W => (W.cell? ⟨b, o + k * 5, none⟩ = some (.string z0) ∧ W.cell? ⟨b, o + k * 5 + 1, none⟩ = some (.string z1) ∧ W.cell? ⟨b, o + k * 5 + 2, none⟩ = some (.string z2) ∧ W.cell? ⟨b, o + k * 5 + 3, none⟩ = some (.bool z3) ∧ W.cell? ⟨b, o + k * 5 + 4, none⟩ = some (.slice a4 z4 c4)) ∧ W.cell? ⟨b', o' + k * 5, none⟩ = some (.string z0) ∧ W.cell? ⟨b', o' + k * 5 + 1, none⟩ = some (.string z1) ∧ W.cell? ⟨b', o' + k * 5 + 2, none⟩ = some (.string z2) ∧ W.cell? ⟨b', o' + k * 5 + 3, none⟩ = some (.bool z3) ∧ W.cell? ⟨b', o' + k * 5 + 4, none⟩ = some (.slice a4' z4 c4'))
        (first | exact HC.out _ HBE.out.drew | exact HC.out _ hb2 | exact HC.out _ HBE.out | go_keep)
        (((go_at_call 68; refine (HEQ.out _ HBE.out.drew).mono ?_; rintro e w2 ⟨rfl, hl2⟩; have hb2 : Below w.heap.size w w2 := HBE.out.drew.trans (hl2.mono HBE.out.size))))
      go_wp2_with fail
      go_roundw
      case rel => exact ⟨k + 1, by omega, by go_num, hb2⟩
      case measure => simp [intOf]; omega
    · have hlt' : ¬ (k : Int) < (l.length : Int) := by omega
      go_wp2
      go_ret
      exact ⟨rfl, hbel⟩

set_option maxRecDepth 100000 in
set_option maxHeartbeats 2000000 in
theorem eq1Df_any (y0 : ByteArray) (y1 : ByteArray) (y2 : Int) (y3 : ByteArray)  (w : World)  :
    Calls Tryz.prog 69 #[.agg #[.string y0, .string y1, .int .i64 y2, .string y3], .agg #[.string y0, .string y1, .int .i64 y2, .string y3]] w fun e w' => e = .returned (.bool true) ∧ Below w.heap.size w w' := by

  have HB0 : Hid (Below w.heap.size w ((w.alloc (.cells #[.string y0, .string y1, .int .i64 y2, .string y3] 62)).alloc (.cells #[.string y0, .string y1, .int .i64 y2, .string y3] 62))) := ((Below.refl _ _).alloc (Nat.le_refl _) _).alloc (by simp) _
  go_enter Tryz.func69, Tryz.ntmps69
  go_wp2
  go_ret
  first
    | exact ⟨by first | rfl | simp, HB0.out⟩
    | exact ⟨by first | rfl | simp, HB0.out.drew⟩
    | exact ⟨by first | rfl | simp, below_drewN HB0.out _⟩

set_option maxRecDepth 100000 in
set_option maxHeartbeats 4000000 in
theorem eqDf_any (a a' : Option Addr) (c c' : Nat) (l : List Df) (w : World) (hb : SrcDf none w a l) (hb' : SrcDf none w a' l) (hn : wtDf l ≤ 1048576) :
    Calls Tryz.prog 47 #[.slice a l.length c, .slice a' l.length c'] w fun e w' => e = .returned (.bool true) ∧ Below w.heap.size w w' := by
  have hl := wtDf_len l
  have hn1 : l.length ≤ 1048576 := by omega
  have HB : Hid (SrcDf none w a l) := hb
  have HB' : Hid (SrcDf none w a' l) := hb'
  clear hb hb' hl
  go_enter Tryz.func47, Tryz.ntmps47
  go_wp2
  go_loopw [5] (fun i wr => ∃ k : Nat, k ≤ l.length ∧ i = .int .i64 (k : Int) ∧ Below w.heap.size w wr) (fun i _ => l.length - (intOf i).toNat)
  case atStart => exact ⟨0, Nat.zero_le _, rfl, Below.refl _ _⟩
  case round =>
    obtain ⟨k, hk, rfl, hbel⟩ := hrel
    have HBE : Hid (Below w.heap.size w wr) := hbel
    by_cases hlt : k < l.length
    · obtain ⟨x, hx⟩ : ∃ x, l[k]? = some x := ⟨_, List.getElem?_eq_getElem hlt⟩
      have hwx := wtDf_mem (List.mem_of_getElem? hx)
      rcases HB.out with ⟨_, h⟩ | ⟨b, o, rfl, _, hc⟩
      · rw [h] at hlt; simp at hlt
      rcases HB'.out with ⟨_, h⟩ | ⟨b', o', rfl, _, hc'⟩
      · rw [h] at hlt; simp at hlt
      have hlt' : (k : Int) < (l.length : Int) := by omega
      have hk0 : (0 : Int) ≤ (k : Int) := by omega
      obtain ⟨e0, e1, e2, e3⟩ := hc k x hx
      obtain ⟨e0', e1', e2', e3'⟩ := hc' k x hx
      have K : ∀ {W : World} {q p v}, Below w.heap.size w W → w.cell? ⟨q, p, none⟩ = some v → W.cell? ⟨q, p, none⟩ = some v := fun {W q p v} hW h => (hW.cell (p := ⟨q, p, none⟩) (World.block_lt_of_cell? _ _ h)).trans h
      have HC : Hid (∀ W : World, Below w.heap.size w W → (W.cell? ⟨b, o + k * 4, none⟩ = some (.string x.fOption) ∧ W.cell? ⟨b, o + k * 4 + 1, none⟩ = some (.string x.fValue) ∧ W.cell? ⟨b, o + k * 4 + 2, none⟩ = some (.int .i64 x.fRank) ∧ W.cell? ⟨b, o + k * 4 + 3, none⟩ = some (.string x.fWhen)) ∧ W.cell? ⟨b', o' + k * 4, none⟩ = some (.string x.fOption) ∧ W.cell? ⟨b', o' + k * 4 + 1, none⟩ = some (.string x.fValue) ∧ W.cell? ⟨b', o' + k * 4 + 2, none⟩ = some (.int .i64 x.fRank) ∧ W.cell? ⟨b', o' + k * 4 + 3, none⟩ = some (.string x.fWhen)) := fun W h => ⟨⟨K h e0, K h e1, K h e2, K h e3⟩, K h e0', K h e1', K h e2', K h e3'⟩
      have HEQ : Hid (∀ W, Below w.heap.size w W → Calls Tryz.prog 69 #[.agg #[.string x.fOption, .string x.fValue, .int .i64 x.fRank, .string x.fWhen], .agg #[.string x.fOption, .string x.fValue, .int .i64 x.fRank, .string x.fWhen]] W fun e w' => e = .returned (.bool true) ∧ Below W.heap.size W w') := fun W h => eq1Df_any x.fOption x.fValue x.fRank x.fWhen  W 
      obtain ⟨z0, hz0⟩ : ∃ z, x.fOption = z := ⟨_, rfl⟩
      obtain ⟨z1, hz1⟩ : ∃ z, x.fValue = z := ⟨_, rfl⟩
      obtain ⟨z2, hz2⟩ : ∃ z, x.fRank = z := ⟨_, rfl⟩
      obtain ⟨z3, hz3⟩ : ∃ z, x.fWhen = z := ⟨_, rfl⟩
      rw [hz0, hz1, hz2, hz3] at HC HEQ
      clear hbel hc hc' hx HB HB' hz0 hz1 hz2 hz3 e0 e1 e2 e3 e0' e1' e2' e3' K hwx
      go_wp2_with fail
      go_region_held3 (fun W => (W.cell? ⟨b, o + k * 4, none⟩ = some (.string z0) ∧ W.cell? ⟨b, o + k * 4 + 1, none⟩ = some (.string z1) ∧ W.cell? ⟨b, o + k * 4 + 2, none⟩ = some (.int .i64 z2) ∧ W.cell? ⟨b, o + k * 4 + 3, none⟩ = some (.string z3)) ∧ W.cell? ⟨b', o' + k * 4, none⟩ = some (.string z0) ∧ W.cell? ⟨b', o' + k * 4 + 1, none⟩ = some (.string z1) ∧ W.cell? ⟨b', o' + k * 4 + 2, none⟩ = some (.int .i64 z2) ∧ W.cell? ⟨b', o' + k * 4 + 3, none⟩ = some (.string z3))
        (first | exact HC.out _ HBE.out.drew | exact HC.out _ hb2 | exact HC.out _ HBE.out | go_keep)
        (((go_at_call 69; refine (HEQ.out _ HBE.out.drew).mono ?_; rintro e w2 ⟨rfl, hl2⟩; have hb2 : Below w.heap.size w w2 := HBE.out.drew.trans (hl2.mono HBE.out.size))))
      go_wp2_with fail
      go_roundw
      case rel => exact ⟨k + 1, by omega, by go_num, hb2⟩
      case measure => simp [intOf]; omega
    · have hlt' : ¬ (k : Int) < (l.length : Int) := by omega
      go_wp2
      go_ret
      exact ⟨rfl, hbel⟩

set_option maxRecDepth 100000 in
set_option maxHeartbeats 2000000 in
theorem eq1Md_any (y0 : ByteArray) (y1 : List ByteArray) (y2 : List Op) (y3 : List Df) (a1 a1' : Option Addr) (c1 c1' : Nat) (a2 a2' : Option Addr) (c2 c2' : Nat) (a3 a3' : Option Addr) (c3 c3' : Nat) (w : World) (hb1 : SrcS none w a1 y1) (hb1' : SrcS none w a1' y1) (hn1 : wtS y1 ≤ 1048576) (hb2 : SrcOp none w a2 y2) (hb2' : SrcOp none w a2' y2) (hn2 : wtOp y2 ≤ 1048576) (hb3 : SrcDf none w a3 y3) (hb3' : SrcDf none w a3' y3) (hn3 : wtDf y3 ≤ 1048576) :
    Calls Tryz.prog 22 #[.agg #[.string y0, .slice a1 y1.length c1, .slice a2 y2.length c2, .slice a3 y3.length c3], .agg #[.string y0, .slice a1' y1.length c1', .slice a2' y2.length c2', .slice a3' y3.length c3']] w fun e w' => e = .returned (.bool true) ∧ Below w.heap.size w w' := by

  have HEQ1 : Hid (∀ W, Below w.heap.size w W → Calls Tryz.prog 10 #[.slice a1 y1.length c1, .slice a1' y1.length c1'] W fun e w' => e = .returned (.bool true) ∧ Below W.heap.size W w') := fun W h => eqS_any a1 a1' c1 c1' y1 W (hb1.below h) (hb1'.below h) hn1
  have HEQ2 : Hid (∀ W, Below w.heap.size w W → Calls Tryz.prog 46 #[.slice a2 y2.length c2, .slice a2' y2.length c2'] W fun e w' => e = .returned (.bool true) ∧ Below W.heap.size W w') := fun W h => eqOp_any a2 a2' c2 c2' y2 W (hb2.below h) (hb2'.below h) hn2
  have HEQ3 : Hid (∀ W, Below w.heap.size w W → Calls Tryz.prog 47 #[.slice a3 y3.length c3, .slice a3' y3.length c3'] W fun e w' => e = .returned (.bool true) ∧ Below W.heap.size W w') := fun W h => eqDf_any a3 a3' c3 c3' y3 W (hb3.below h) (hb3'.below h) hn3
  clear hb1 hb1' hn1 hb2 hb2' hn2 hb3 hb3' hn3
  have HB0 : Hid (Below w.heap.size w ((w.alloc (.cells #[.string y0, .slice a1 y1.length c1, .slice a2 y2.length c2, .slice a3 y3.length c3] 45)).alloc (.cells #[.string y0, .slice a1' y1.length c1', .slice a2' y2.length c2', .slice a3' y3.length c3'] 45))) := ((Below.refl _ _).alloc (Nat.le_refl _) _).alloc (by simp) _
  go_enter Tryz.func22, Tryz.ntmps22
  go_wp2_with (go_at_call 10; refine (HEQ1.out _ (by first | exact HB0.out | exact HB0.out.drew)).mono ?_; rintro e w1 ⟨rfl, hl1⟩; refine Hid.out ?_)
  refine Lib.hid ?_
  have HB2 : Hid (Below w.heap.size w w1) := by first | exact HB0.out.trans (hl1.mono HB0.out.size) | exact HB0.out.drew.trans (hl1.mono HB0.out.size)
  obtain ⟨k1, k2⟩ := bcell hl1
  have p1_2 : w1.cell? ⟨w.heap.size, 2, none⟩ = some (.slice a2 y2.length c2) := (k1 _ _ (by first | (simp; done) | (simp; omega))).trans (by simp [go_sem])
  have p'1_2 : w1.cell? ⟨w.heap.size + 1, 2, none⟩ = some (.slice a2' y2.length c2') := (k1 _ _ (by first | (simp; done) | (simp; omega))).trans (by simp [go_sem])
  have p1_3 : w1.cell? ⟨w.heap.size, 3, none⟩ = some (.slice a3 y3.length c3) := (k1 _ _ (by first | (simp; done) | (simp; omega))).trans (by simp [go_sem])
  have p'1_3 : w1.cell? ⟨w.heap.size + 1, 3, none⟩ = some (.slice a3' y3.length c3') := (k1 _ _ (by first | (simp; done) | (simp; omega))).trans (by simp [go_sem])
  clear k1 k2
  clear hl1
  go_wp2_with (go_at_call 46; refine (HEQ2.out _ (by first | exact HB2.out | exact HB2.out.drew)).mono ?_; rintro e w2 ⟨rfl, hl2⟩; refine Hid.out ?_)
  refine Lib.hid ?_
  have HB3 : Hid (Below w.heap.size w w2) := by first | exact HB2.out.trans (hl2.mono HB2.out.size) | exact HB2.out.drew.trans (hl2.mono HB2.out.size)
  obtain ⟨k1, k2⟩ := bcell hl2
  have p2_3 : w2.cell? ⟨w.heap.size, 3, none⟩ = some (.slice a3 y3.length c3) := (k1 _ _ (World.block_lt_of_cell? _ _ p1_3)).trans p1_3
  have p'2_3 : w2.cell? ⟨w.heap.size + 1, 3, none⟩ = some (.slice a3' y3.length c3') := (k1 _ _ (World.block_lt_of_cell? _ _ p'1_3)).trans p'1_3
  clear k1 k2
  clear hl2
  go_wp2_with (go_at_call 47; refine (HEQ3.out _ (by first | exact HB3.out | exact HB3.out.drew)).mono ?_; rintro e w3 ⟨rfl, hl3⟩; refine Hid.out ?_)
  refine Lib.hid ?_
  have HB4 : Hid (Below w.heap.size w w3) := by first | exact HB3.out.trans (hl3.mono HB3.out.size) | exact HB3.out.drew.trans (hl3.mono HB3.out.size)
  clear hl3
  go_wp2
  go_ret
  first
    | exact ⟨by first | rfl | simp, HB4.out⟩
    | exact ⟨by first | rfl | simp, HB4.out.drew⟩
    | exact ⟨by first | rfl | simp, below_drewN HB4.out _⟩

set_option maxRecDepth 100000 in
set_option maxHeartbeats 4000000 in
theorem eqMd_any (a a' : Option Addr) (c c' : Nat) (l : List Md) (w : World) (hb : SrcMd none w a l) (hb' : SrcMd none w a' l) (hn : wtMd l ≤ 1048576) :
    Calls Tryz.prog 11 #[.slice a l.length c, .slice a' l.length c'] w fun e w' => e = .returned (.bool true) ∧ Below w.heap.size w w' := by
  have hl := wtMd_len l
  have hn1 : l.length ≤ 1048576 := by omega
  have HB : Hid (SrcMd none w a l) := hb
  have HB' : Hid (SrcMd none w a' l) := hb'
  clear hb hb' hl
  go_enter Tryz.func11, Tryz.ntmps11
  go_wp2
  go_loopw [5] (fun i wr => ∃ k : Nat, k ≤ l.length ∧ i = .int .i64 (k : Int) ∧ Below w.heap.size w wr) (fun i _ => l.length - (intOf i).toNat)
  case atStart => exact ⟨0, Nat.zero_le _, rfl, Below.refl _ _⟩
  case round =>
    obtain ⟨k, hk, rfl, hbel⟩ := hrel
    have HBE : Hid (Below w.heap.size w wr) := hbel
    by_cases hlt : k < l.length
    · obtain ⟨x, hx⟩ : ∃ x, l[k]? = some x := ⟨_, List.getElem?_eq_getElem hlt⟩
      have hwx := wtMd_mem (List.mem_of_getElem? hx)
      rcases HB.out with ⟨_, h⟩ | ⟨b, o, rfl, _, hc⟩
      · rw [h] at hlt; simp at hlt
      rcases HB'.out with ⟨_, h⟩ | ⟨b', o', rfl, _, hc'⟩
      · rw [h] at hlt; simp at hlt
      have hlt' : (k : Int) < (l.length : Int) := by omega
      have hk0 : (0 : Int) ≤ (k : Int) := by omega
      obtain ⟨a1, c1, a2, c2, a3, c3, e0, e1, e2, e3, s1, s2, s3⟩ := hc k x hx
      obtain ⟨a1', c1', a2', c2', a3', c3', e0', e1', e2', e3', s1', s2', s3'⟩ := hc' k x hx
      have K : ∀ {W : World} {q p v}, Below w.heap.size w W → w.cell? ⟨q, p, none⟩ = some v → W.cell? ⟨q, p, none⟩ = some v := fun {W q p v} hW h => (hW.cell (p := ⟨q, p, none⟩) (World.block_lt_of_cell? _ _ h)).trans h
      have HC : Hid (∀ W : World, Below w.heap.size w W → (W.cell? ⟨b, o + k * 4, none⟩ = some (.string x.fName) ∧ W.cell? ⟨b, o + k * 4 + 1, none⟩ = some (.slice a1 x.fImports.length c1) ∧ W.cell? ⟨b, o + k * 4 + 2, none⟩ = some (.slice a2 x.fOptions.length c2) ∧ W.cell? ⟨b, o + k * 4 + 3, none⟩ = some (.slice a3 x.fDefs.length c3)) ∧ W.cell? ⟨b', o' + k * 4, none⟩ = some (.string x.fName) ∧ W.cell? ⟨b', o' + k * 4 + 1, none⟩ = some (.slice a1' x.fImports.length c1') ∧ W.cell? ⟨b', o' + k * 4 + 2, none⟩ = some (.slice a2' x.fOptions.length c2') ∧ W.cell? ⟨b', o' + k * 4 + 3, none⟩ = some (.slice a3' x.fDefs.length c3')) := fun W h => ⟨⟨K h e0, K h e1, K h e2, K h e3⟩, K h e0', K h e1', K h e2', K h e3'⟩
      have HEQ : Hid (∀ W, Below w.heap.size w W → Calls Tryz.prog 22 #[.agg #[.string x.fName, .slice a1 x.fImports.length c1, .slice a2 x.fOptions.length c2, .slice a3 x.fDefs.length c3], .agg #[.string x.fName, .slice a1' x.fImports.length c1', .slice a2' x.fOptions.length c2', .slice a3' x.fDefs.length c3']] W fun e w' => e = .returned (.bool true) ∧ Below W.heap.size W w') := fun W h => eq1Md_any x.fName x.fImports x.fOptions x.fDefs a1 a1' c1 c1' a2 a2' c2 c2' a3 a3' c3 c3' W (s1.below h) (s1'.below h) (by unfold wt1Md at hwx; omega) (s2.below h) (s2'.below h) (by unfold wt1Md at hwx; omega) (s3.below h) (s3'.below h) (by unfold wt1Md at hwx; omega)
      obtain ⟨z0, hz0⟩ : ∃ z, x.fName = z := ⟨_, rfl⟩
      obtain ⟨z1, hz1⟩ : ∃ z, x.fImports.length = z := ⟨_, rfl⟩
      obtain ⟨z2, hz2⟩ : ∃ z, x.fOptions.length = z := ⟨_, rfl⟩
      obtain ⟨z3, hz3⟩ : ∃ z, x.fDefs.length = z := ⟨_, rfl⟩
      rw [hz0, hz1, hz2, hz3] at HC HEQ
      clear hbel hc hc' hx HB HB' hz0 hz1 hz2 hz3 e0 e1 e2 e3 s1 s2 s3 e0' e1' e2' e3' s1' s2' s3' K hwx
      go_wp2_with fail
      go_region_held3 (fun W => (W.cell? ⟨b, o + k * 4, none⟩ = some (.string z0) ∧ W.cell? ⟨b, o + k * 4 + 1, none⟩ = some (.slice a1 z1 c1) ∧ W.cell? ⟨b, o + k * 4 + 2, none⟩ = some (.slice a2 z2 c2) ∧ W.cell? ⟨b, o + k * 4 + 3, none⟩ = some (.slice a3 z3 c3)) ∧ W.cell? ⟨b', o' + k * 4, none⟩ = some (.string z0) ∧ W.cell? ⟨b', o' + k * 4 + 1, none⟩ = some (.slice a1' z1 c1') ∧ W.cell? ⟨b', o' + k * 4 + 2, none⟩ = some (.slice a2' z2 c2') ∧ W.cell? ⟨b', o' + k * 4 + 3, none⟩ = some (.slice a3' z3 c3'))
        (first | exact HC.out _ HBE.out.drew | exact HC.out _ hb2 | exact HC.out _ HBE.out | go_keep)
        (((go_at_call 22; refine (HEQ.out _ HBE.out.drew).mono ?_; rintro e w2 ⟨rfl, hl2⟩; have hb2 : Below w.heap.size w w2 := HBE.out.drew.trans (hl2.mono HBE.out.size))))
      go_wp2_with fail
      go_roundw
      case rel => exact ⟨k + 1, by omega, by go_num, hb2⟩
      case measure => simp [intOf]; omega
    · have hlt' : ¬ (k : Int) < (l.length : Int) := by omega
      go_wp2
      go_ret
      exact ⟨rfl, hbel⟩

end Go.Proofs.YthkngngkmbohoaaGreatDoor.ty
