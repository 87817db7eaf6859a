import Derived.Test.YtdddplhfhpghkaaYA
import Derived.Deep.RegionHeld3
import Derived.Deep.QuietTactic
import Derived.BigQuiet
namespace Go.Proofs.Ytdddplhfhpghkaa.ty
open Go.ChangeShapes Go.WideShapes Go.ChangeAt Go.RowKit Go.Deep
set_option linter.unusedVariables false
set_option linter.unusedSimpArgs false

/-! ### Equal lists -/

set_option maxRecDepth 100000 in
theorem eqS_any (a a' : Option Addr) (c c' : Nat) (l : List ByteArray) (w : World) (hb : SrcS none w a l) (hb' : SrcS none w a' l) (hn : wtS l ≤ 1048576) :
    Calls Try.prog 10 #[.slice a l.length c, .slice a' l.length c'] w fun e w' => e = .returned (.bool true) ∧ Below w.heap.size w w' := by
  have hl := wtS_len l
  have hn1 : l.length ≤ 1048576 := by omega
  have HB : Hid (SrcS none w a l) := hb
  have HB' : Hid (SrcS none w a' l) := hb'
  clear hb hb' hn hl
  go_enter Try.func10, Try.ntmps10
  go_wp2
  go_loopw [5] (fun i wr => ∃ k : Nat, k ≤ l.length ∧ i = .int .i64 (k : Int) ∧ ∃ q, wr = w.drewN q) (fun i _ => l.length - (intOf i).toNat)
  case atStart => exact ⟨0, Nat.zero_le _, rfl, 0, rfl⟩
  case round =>
    obtain ⟨k, hk, rfl, q, rfl⟩ := hrel
    by_cases hlt : k < l.length
    · obtain ⟨x, hx⟩ : ∃ x, l[k]? = some x := ⟨_, List.getElem?_eq_getElem hlt⟩
      rcases HB.out with ⟨_, h⟩ | ⟨b, off, rfl, _, hc⟩
      · rw [h] at hlt; simp at hlt
      rcases HB'.out with ⟨_, h⟩ | ⟨b', off', rfl, _, hc'⟩
      · rw [h] at hlt; simp at hlt
      have hck := hc k x hx
      have hck' := hc' k x hx
      have hlt' : (k : Int) < (l.length : Int) := by omega
      clear hc hc' hx HB HB'
      go_wp2
      go_quiet (fail)
      go_wp2
      go_roundw
      case rel => exact ⟨k + 1, by omega, by go_num, _, rfl⟩
      case measure => simp [intOf]; omega
    · have hlt' : ¬ (k : Int) < (l.length : Int) := by omega
      go_wp2
      go_ret
      exact ⟨rfl, below_drewN (Below.refl _ _) _⟩

set_option maxRecDepth 100000 in
set_option maxHeartbeats 2000000 in
theorem eq1Un_any (y0 : ByteArray) (y1 : List ByteArray) (y2 : List ByteArray) (y3 : ByteArray) (y4 : Bool) (a1 a1' : Option Addr) (c1 c1' : Nat) (a2 a2' : Option Addr) (c2 c2' : Nat) (w : World) (hb1 : SrcS none w a1 y1) (hb1' : SrcS none w a1' y1) (hn1 : wtS y1 ≤ 1048576) (hb2 : SrcS none w a2 y2) (hb2' : SrcS none w a2' y2) (hn2 : wtS y2 ≤ 1048576) :
    Calls Try.prog 35 #[.agg #[.string y0, .slice a1 y1.length c1, .slice a2 y2.length c2, .string y3, .bool y4], .agg #[.string y0, .slice a1' y1.length c1', .slice a2' y2.length c2', .string y3, .bool y4]] w fun e w' => e = .returned (.bool true) ∧ Below w.heap.size w w' := by

  have HEQ1 : Hid (∀ W, Below w.heap.size w W → Calls Try.prog 10 #[.slice a1 y1.length c1, .slice a1' y1.length c1'] W fun e w' => e = .returned (.bool true) ∧ Below W.heap.size W w') := fun W h => eqS_any a1 a1' c1 c1' y1 W (hb1.below h) (hb1'.below h) hn1
  have HEQ2 : Hid (∀ W, Below w.heap.size w W → Calls Try.prog 10 #[.slice a2 y2.length c2, .slice a2' y2.length c2'] W fun e w' => e = .returned (.bool true) ∧ Below W.heap.size W w') := fun W h => eqS_any a2 a2' c2 c2' y2 W (hb2.below h) (hb2'.below h) hn2
  clear hb1 hb1' hn1 hb2 hb2' hn2
  have HB0 : Hid (Below w.heap.size w ((w.alloc (.cells #[.string y0, .slice a1 y1.length c1, .slice a2 y2.length c2, .string y3, .bool y4] 45)).alloc (.cells #[.string y0, .slice a1' y1.length c1', .slice a2' y2.length c2', .string y3, .bool y4] 45))) := ((Below.refl _ _).alloc (Nat.le_refl _) _).alloc (by simp) _
  go_enter Try.func35, Try.ntmps35
  go_wp2_with (go_at_call 10; refine (HEQ1.out _ (by first | exact HB0.out | exact HB0.out.drew)).mono ?_; rintro e w1 ⟨rfl, hl1⟩; refine Hid.out ?_)
  refine Lib.hid ?_
  have HB2 : Hid (Below w.heap.size w w1) := by first | exact HB0.out.trans (hl1.mono HB0.out.size) | exact HB0.out.drew.trans (hl1.mono HB0.out.size)
  obtain ⟨k1, k2⟩ := bcell hl1
  have p1_2 : w1.cell? ⟨w.heap.size, 2, none⟩ = some (.slice a2 y2.length c2) := (k1 _ _ (by first | (simp; done) | (simp; omega))).trans (by simp [go_sem])
  have p'1_2 : w1.cell? ⟨w.heap.size + 1, 2, none⟩ = some (.slice a2' y2.length c2') := (k1 _ _ (by first | (simp; done) | (simp; omega))).trans (by simp [go_sem])
  have p1_3 : w1.cell? ⟨w.heap.size, 3, none⟩ = some (.string y3) := (k1 _ _ (by first | (simp; done) | (simp; omega))).trans (by simp [go_sem])
  have p'1_3 : w1.cell? ⟨w.heap.size + 1, 3, none⟩ = some (.string y3) := (k1 _ _ (by first | (simp; done) | (simp; omega))).trans (by simp [go_sem])
  have p1_4 : w1.cell? ⟨w.heap.size, 4, none⟩ = some (.bool y4) := (k1 _ _ (by first | (simp; done) | (simp; omega))).trans (by simp [go_sem])
  have p'1_4 : w1.cell? ⟨w.heap.size + 1, 4, none⟩ = some (.bool y4) := (k1 _ _ (by first | (simp; done) | (simp; omega))).trans (by simp [go_sem])
  clear k1 k2
  clear hl1
  go_wp2_with (go_at_call 10; refine (HEQ2.out _ (by first | exact HB2.out | exact HB2.out.drew)).mono ?_; rintro e w2 ⟨rfl, hl2⟩; refine Hid.out ?_)
  refine Lib.hid ?_
  have HB3 : Hid (Below w.heap.size w w2) := by first | exact HB2.out.trans (hl2.mono HB2.out.size) | exact HB2.out.drew.trans (hl2.mono HB2.out.size)
  obtain ⟨k1, k2⟩ := bcell hl2
  have p2_3 : w2.cell? ⟨w.heap.size, 3, none⟩ = some (.string y3) := (k1 _ _ (World.block_lt_of_cell? _ _ p1_3)).trans p1_3
  have p'2_3 : w2.cell? ⟨w.heap.size + 1, 3, none⟩ = some (.string y3) := (k1 _ _ (World.block_lt_of_cell? _ _ p'1_3)).trans p'1_3
  have p2_4 : w2.cell? ⟨w.heap.size, 4, none⟩ = some (.bool y4) := (k1 _ _ (World.block_lt_of_cell? _ _ p1_4)).trans p1_4
  have p'2_4 : w2.cell? ⟨w.heap.size + 1, 4, none⟩ = some (.bool y4) := (k1 _ _ (World.block_lt_of_cell? _ _ p'1_4)).trans p'1_4
  clear k1 k2
  clear hl2
  go_wp2
  go_ret
  first
    | exact ⟨by first | rfl | simp, HB3.out⟩
    | exact ⟨by first | rfl | simp, HB3.out.drew⟩
    | exact ⟨by first | rfl | simp, below_drewN HB3.out _⟩

set_option maxRecDepth 100000 in
set_option maxHeartbeats 4000000 in
theorem eqUn_any (a a' : Option Addr) (c c' : Nat) (l : List Un) (w : World) (hb : SrcUn none w a l) (hb' : SrcUn none w a' l) (hn : wtUn l ≤ 1048576) :
    Calls Try.prog 11 #[.slice a l.length c, .slice a' l.length c'] w fun e w' => e = .returned (.bool true) ∧ Below w.heap.size w w' := by
  have hl := wtUn_len l
  have hn1 : l.length ≤ 1048576 := by omega
  have HB : Hid (SrcUn none w a l) := hb
  have HB' : Hid (SrcUn none w a' l) := hb'
  clear hb hb' hl
  go_enter Try.func11, Try.ntmps11
  go_wp2
  go_loopw [5] (fun i wr => ∃ k : Nat, k ≤ l.length ∧ i = .int .i64 (k : Int) ∧ Below w.heap.size w wr) (fun i _ => l.length - (intOf i).toNat)
  case atStart => exact ⟨0, Nat.zero_le _, rfl, Below.refl _ _⟩
  case round =>
    obtain ⟨k, hk, rfl, hbel⟩ := hrel
    have HBE : Hid (Below w.heap.size w wr) := hbel
    by_cases hlt : k < l.length
    · obtain ⟨x, hx⟩ : ∃ x, l[k]? = some x := ⟨_, List.getElem?_eq_getElem hlt⟩
      have hwx := wtUn_mem (List.mem_of_getElem? hx)
      rcases HB.out with ⟨_, h⟩ | ⟨b, o, rfl, _, hc⟩
      · rw [h] at hlt; simp at hlt
      rcases HB'.out with ⟨_, h⟩ | ⟨b', o', rfl, _, hc'⟩
      · rw [h] at hlt; simp at hlt
      have hlt' : (k : Int) < (l.length : Int) := by omega
      have hk0 : (0 : Int) ≤ (k : Int) := by omega
      obtain ⟨a1, c1, a2, c2, e0, e1, e2, e3, e4, s1, s2, _, _⟩ := hc k x hx
      obtain ⟨a1', c1', a2', c2', e0', e1', e2', e3', e4', s1', s2', _, _⟩ := hc' k x hx
      have K : ∀ {W : World} {q p v}, Below w.heap.size w W → w.cell? ⟨q, p, none⟩ = some v → W.cell? ⟨q, p, none⟩ = some v := fun {W q p v} hW h => (hW.cell (p := ⟨q, p, none⟩) (World.block_lt_of_cell? _ _ h)).trans h
      have HC : Hid (∀ W : World, Below w.heap.size w W → (W.cell? ⟨b, o + k * 5, none⟩ = some (.string x.fName) ∧ W.cell? ⟨b, o + k * 5 + 1, none⟩ = some (.slice a1 x.fAfter.length c1) ∧ W.cell? ⟨b, o + k * 5 + 2, none⟩ = some (.slice a2 x.fNeeds.length c2) ∧ W.cell? ⟨b, o + k * 5 + 3, none⟩ = some (.string x.fExec) ∧ W.cell? ⟨b, o + k * 5 + 4, none⟩ = some (.bool x.fKeep)) ∧ W.cell? ⟨b', o' + k * 5, none⟩ = some (.string x.fName) ∧ W.cell? ⟨b', o' + k * 5 + 1, none⟩ = some (.slice a1' x.fAfter.length c1') ∧ W.cell? ⟨b', o' + k * 5 + 2, none⟩ = some (.slice a2' x.fNeeds.length c2') ∧ W.cell? ⟨b', o' + k * 5 + 3, none⟩ = some (.string x.fExec) ∧ W.cell? ⟨b', o' + k * 5 + 4, none⟩ = some (.bool x.fKeep)) := fun W h => ⟨⟨K h e0, K h e1, K h e2, K h e3, K h e4⟩, K h e0', K h e1', K h e2', K h e3', K h e4'⟩
      have HEQ : Hid (∀ W, Below w.heap.size w W → Calls Try.prog 35 #[.agg #[.string x.fName, .slice a1 x.fAfter.length c1, .slice a2 x.fNeeds.length c2, .string x.fExec, .bool x.fKeep], .agg #[.string x.fName, .slice a1' x.fAfter.length c1', .slice a2' x.fNeeds.length c2', .string x.fExec, .bool x.fKeep]] W fun e w' => e = .returned (.bool true) ∧ Below W.heap.size W w') := fun W h => eq1Un_any x.fName x.fAfter x.fNeeds x.fExec x.fKeep a1 a1' c1 c1' a2 a2' c2 c2' W (s1.below h) (s1'.below h) (by unfold wt1Un at hwx; omega) (s2.below h) (s2'.below h) (by unfold wt1Un at hwx; omega)
      obtain ⟨z0, hz0⟩ : ∃ z, x.fName = z := ⟨_, rfl⟩
      obtain ⟨z1, hz1⟩ : ∃ z, x.fAfter.length = z := ⟨_, rfl⟩
      obtain ⟨z2, hz2⟩ : ∃ z, x.fNeeds.length = z := ⟨_, rfl⟩
      obtain ⟨z3, hz3⟩ : ∃ z, x.fExec = z := ⟨_, rfl⟩
      obtain ⟨z4, hz4⟩ : ∃ z, x.fKeep = z := ⟨_, rfl⟩
      rw [hz0, hz1, hz2, hz3, hz4] at HC HEQ
      clear hbel hc hc' hx HB HB' hz0 hz1 hz2 hz3 hz4 e0 e1 e2 e3 e4 s1 s2 e0' e1' e2' e3' e4' s1' s2' K hwx
      go_wp2_with fail
      go_region_held3 (fun W => (W.cell? ⟨b, o + k * 5, none⟩ = some (.string z0) ∧ W.cell? ⟨b, o + k * 5 + 1, none⟩ = some (.slice a1 z1 c1) ∧ W.cell? ⟨b, o + k * 5 + 2, none⟩ = some (.slice a2 z2 c2) ∧ W.cell? ⟨b, o + k * 5 + 3, none⟩ = some (.string z3) ∧ W.cell? ⟨b, o + k * 5 + 4, none⟩ = some (.bool z4)) ∧ W.cell? ⟨b', o' + k * 5, none⟩ = some (.string z0) ∧ W.cell? ⟨b', o' + k * 5 + 1, none⟩ = some (.slice a1' z1 c1') ∧ W.cell? ⟨b', o' + k * 5 + 2, none⟩ = some (.slice a2' z2 c2') ∧ W.cell? ⟨b', o' + k * 5 + 3, none⟩ = some (.string z3) ∧ W.cell? ⟨b', o' + k * 5 + 4, none⟩ = some (.bool z4))
        (first | exact HC.out _ HBE.out.drew | exact HC.out _ hb2 | exact HC.out _ HBE.out | go_keep)
        (((go_at_call 35; refine (HEQ.out _ HBE.out.drew).mono ?_; rintro e w2 ⟨rfl, hl2⟩; have hb2 : Below w.heap.size w w2 := HBE.out.drew.trans (hl2.mono HBE.out.size))))
      go_wp2_with fail
      go_roundw
      case rel => exact ⟨k + 1, by omega, by go_num, hb2⟩
      case measure => simp [intOf]; omega
    · have hlt' : ¬ (k : Int) < (l.length : Int) := by omega
      go_wp2
      go_ret
      exact ⟨rfl, hbel⟩

end Go.Proofs.Ytdddplhfhpghkaa.ty
