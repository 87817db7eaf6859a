import Derived.Test.YtpfnnjfapcnbnaaGreatDoorYBa
namespace Go.Proofs.YtpfnnjfapcnbnaaGreatDoor.ty
open Go.ChangeShapes Go.WideShapes Go.ChangeAt Go.RowKit Go.Deep
set_option linter.unusedVariables false
set_option linter.unusedSimpArgs false
set_option maxRecDepth 100000 in
set_option maxHeartbeats 4000000 in
theorem eqIt_bd (a a' : Option Addr) (c c' : Nat) (l : List It) (w : World) (hb : SrcIt none w a l) (hb' : SrcIt none w a' l) (hn1 : l.length ≤ 1048576) (hB : ∀ x ∈ l, wtS x.fRefs ≤ 1048576 ∧ wtEt x.fTree ≤ 1048576) :
  Calls Tryz.prog 17 #[.slice a l.length c, .slice a' l.length c'] w fun e w' => e = .returned (.bool true) ∧ Below w.heap.size w w' := by
 have HB : Hid (SrcIt none w a l) := hb
 have HB' : Hid (SrcIt none w a' l) := hb'
 clear hb hb'
 go_enter Tryz.func17, Tryz.ntmps17
 go_wp2
 go_loopw [5] (fun i wr => ∃ k : Nat, k ≤ l.length ∧ i = .int .i64 (k : Int) ∧ Below w.heap.size w wr) (fun i _ => l.length - (intOf i).toNat)
 case atStart => exact ⟨0, Nat.zero_le _, rfl, Below.refl _ _⟩
 case round =>
  obtain ⟨k, hk, rfl, hbel⟩ := hrel
  have HBE : Hid (Below w.heap.size w wr) := hbel
  by_cases hlt : k < l.length
  ·obtain ⟨x, hx⟩ : ∃ x, l[k]? = some x := ⟨_, List.getElem?_eq_getElem hlt⟩
   have hwx := hB x (List.mem_of_getElem? hx)
   rcases HB.out with ⟨_, h⟩ | ⟨b, o, rfl, _, hc⟩
   ·rw [h] at hlt; simp at hlt
   rcases HB'.out with ⟨_, h⟩ | ⟨b', o', rfl, _, hc'⟩
   ·rw [h] at hlt; simp at hlt
   have hlt' : (k : Int) < (l.length : Int) := by omega
   have hk0 : (0 : Int) ≤ (k : Int) := by omega
   obtain ⟨a2, c2, a4, c4, e0, e1, e2, e3, e4, s2, s4, _, _⟩ := hc k x hx
   obtain ⟨a2', c2', a4', c4', e0', e1', e2', e3', e4', s2', s4', _, _⟩ := hc' k x hx
   have K : ∀ {W : World} {q p v}, Below w.heap.size w W → w.cell? ⟨q, p, none⟩ = some v → W.cell? ⟨q, p, none⟩ = some v := fun {W q p v} hW h => (hW.cell (p := ⟨q, p, none⟩) (World.block_lt_of_cell? _ _ h)).trans h
   have HC : Hid (∀ W : World, Below w.heap.size w W → (W.cell? ⟨b, o + k * 5, none⟩ = some (.string x.fPath) ∧ W.cell? ⟨b, o + k * 5 + 1, none⟩ = some (.string x.fSum) ∧ W.cell? ⟨b, o + k * 5 + 2, none⟩ = some (.slice a2 x.fRefs.length c2) ∧ W.cell? ⟨b, o + k * 5 + 3, none⟩ = some (.string x.fFrom) ∧ W.cell? ⟨b, o + k * 5 + 4, none⟩ = some (.slice a4 x.fTree.length c4)) ∧ W.cell? ⟨b', o' + k * 5, none⟩ = some (.string x.fPath) ∧ W.cell? ⟨b', o' + k * 5 + 1, none⟩ = some (.string x.fSum) ∧ W.cell? ⟨b', o' + k * 5 + 2, none⟩ = some (.slice a2' x.fRefs.length c2') ∧ W.cell? ⟨b', o' + k * 5 + 3, none⟩ = some (.string x.fFrom) ∧ W.cell? ⟨b', o' + k * 5 + 4, none⟩ = some (.slice a4' x.fTree.length c4')) := fun W h => ⟨⟨K h e0, K h e1, K h e2, K h e3, K h e4⟩, K h e0', K h e1', K h e2', K h e3', K h e4'⟩
   have HEQ : Hid (∀ W, Below w.heap.size w W → Calls Tryz.prog 60 #[.agg #[.string x.fPath, .string x.fSum, .slice a2 x.fRefs.length c2, .string x.fFrom, .slice a4 x.fTree.length c4], .agg #[.string x.fPath, .string x.fSum, .slice a2' x.fRefs.length c2', .string x.fFrom, .slice a4' x.fTree.length c4']] W fun e w' => e = .returned (.bool true) ∧ Below W.heap.size W w') := fun W h => eq1It_any x.fPath x.fSum x.fRefs x.fFrom x.fTree a2 a2' c2 c2' a4 a4' c4 c4' W (s2.below h) (s2'.below h) hwx.1 (s4.below h) (s4'.below h) hwx.2
   obtain ⟨z0, hz0⟩ : ∃ z, x.fPath = z := ⟨_, rfl⟩
   obtain ⟨z1, hz1⟩ : ∃ z, x.fSum = z := ⟨_, rfl⟩
   obtain ⟨z2, hz2⟩ : ∃ z, x.fRefs.length = z := ⟨_, rfl⟩
   obtain ⟨z3, hz3⟩ : ∃ z, x.fFrom = z := ⟨_, rfl⟩
   obtain ⟨z4, hz4⟩ : ∃ z, x.fTree.length = z := ⟨_, rfl⟩
   rw [hz0, hz1, hz2, hz3, hz4] at HC HEQ
   clear hbel hc hc' hx HB HB' hz0 hz1 hz2 hz3 hz4 e0 e1 e2 e3 e4 s2 s4 e0' e1' e2' e3' e4' s2' s4' K hwx
   go_wp2_with fail
   go_region_held3 (fun W => (W.cell? ⟨b, o + k * 5, none⟩ = some (.string z0) ∧ W.cell? ⟨b, o + k * 5 + 1, none⟩ = some (.string z1) ∧ W.cell? ⟨b, o + k * 5 + 2, none⟩ = some (.slice a2 z2 c2) ∧ W.cell? ⟨b, o + k * 5 + 3, none⟩ = some (.string z3) ∧ W.cell? ⟨b, o + k * 5 + 4, none⟩ = some (.slice a4 z4 c4)) ∧ W.cell? ⟨b', o' + k * 5, none⟩ = some (.string z0) ∧ W.cell? ⟨b', o' + k * 5 + 1, none⟩ = some (.string z1) ∧ W.cell? ⟨b', o' + k * 5 + 2, none⟩ = some (.slice a2' z2 c2') ∧ W.cell? ⟨b', o' + k * 5 + 3, none⟩ = some (.string z3) ∧ W.cell? ⟨b', o' + k * 5 + 4, none⟩ = some (.slice a4' z4 c4'))
    (first | exact HC.out _ HBE.out.drew | exact HC.out _ hb2 | exact HC.out _ HBE.out | go_keep)
    (((go_at_call 60; refine (HEQ.out _ HBE.out.drew).mono ?_; rintro e w2 ⟨rfl, hl2⟩; have hb2 : Below w.heap.size w w2 := HBE.out.drew.trans (hl2.mono HBE.out.size))))
   go_wp2_with fail
   go_roundw
   case rel => exact ⟨k + 1, by omega, by go_num, hb2⟩
   case measure => simp [intOf]; omega
  ·have hlt' : ¬ (k : Int) < (l.length : Int) := by omega
   go_wp2
   go_ret
   exact ⟨rfl, hbel⟩
end Go.Proofs.YtpfnnjfapcnbnaaGreatDoor.ty
