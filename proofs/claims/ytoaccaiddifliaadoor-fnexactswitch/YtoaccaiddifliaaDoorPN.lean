import Derived.Test.YtoaccaiddifliaaDoorPM
import Derived.Deep.RegionHeld3
namespace Go.Proofs.YtoaccaiddifliaaDoor.pf
open Go.ChangeShapes Go.WideShapes Go.ChangeAt Go.RowKit Go.Deep
set_option linter.unusedVariables false
set_option linter.unusedSimpArgs false

/-! ### Profiles: equal lists -/

set_option maxRecDepth 100000 in
theorem eqG1_any (n : Int) (p : ByteArray) (w : World) :
    Calls Tryd.prog 61 #[.agg #[.int .i64 n, .string p], .agg #[.int .i64 n, .string p]] w fun e w' => e = .returned (.bool true) ∧ Below w.heap.size w w' := by
  go_enter Tryd.func61, Tryd.ntmps61
  go_wp2
  go_ret
  exact ⟨by first | rfl | simp, ((Below.refl _ _).alloc (Nat.le_refl _) _).alloc (by simp) _⟩

set_option maxRecDepth 100000 in
set_option maxHeartbeats 2000000 in
theorem eqG_any (a a' : Option Addr) (c c' : Nat) (l : List Gn) (w : World) (hb : SrcG w a l) (hb' : SrcG w a' l) (hn : l.length ≤ 1048576) :
    Calls Tryd.prog 46 #[.slice a l.length c, .slice a' l.length c'] w fun e w' => e = .returned (.bool true) ∧ Below w.heap.size w w' := by
  have HB : Hid (SrcG w a l) := hb
  have HB' : Hid (SrcG w a' l) := hb'
  clear hb hb'
  go_enter Tryd.func46, Tryd.ntmps46
  go_wp2
  go_loopw [5] (fun i wr => ∃ k : Nat, k ≤ l.length ∧ i = .int .i64 (k : Int) ∧ Below w.heap.size w wr) (fun i _ => l.length - (intOf i).toNat)
  case atStart => exact ⟨0, Nat.zero_le _, rfl, Below.refl _ _⟩
  case round =>
    obtain ⟨k, hk, rfl, hbel⟩ := hrel
    have HBE : Hid (Below w.heap.size w wr) := hbel
    by_cases hlt : k < l.length
    · obtain ⟨x, hx⟩ : ∃ x, l[k]? = some x := ⟨_, List.getElem?_eq_getElem hlt⟩
      rcases HB.out with h | ⟨b, o, rfl, hc⟩
      · rw [h] at hlt; simp at hlt
      rcases HB'.out with h | ⟨b', o', rfl, hc'⟩
      · rw [h] at hlt; simp at hlt
      have hlt' : (k : Int) < (l.length : Int) := by omega
      have hk0 : (0 : Int) ≤ (k : Int) := by omega
      have HC : Hid (∀ W : World, Below w.heap.size w W → G2 W b (o + k * 2) x ∧ G2 W b' (o' + k * 2) x) := fun W h => ⟨(hc k x hx).below h, (hc' k x hx).below h⟩
      have HEQ : Hid (∀ W, Calls Tryd.prog 61 #[.agg #[.int .i64 x.n, .string x.p], .agg #[.int .i64 x.n, .string x.p]] W fun e w' => e = .returned (.bool true) ∧ Below W.heap.size W w') := fun W => eqG1_any _ _ W
      unfold G2 at HC
      generalize x.n = z at *
      generalize x.p = p at *
      clear hbel hc hc' hx HB HB'
      go_wp2_with fail
      go_region_held3 (fun W => (W.cell? ⟨b, o + k * 2, none⟩ = some (.int .i64 z) ∧ W.cell? ⟨b, o + k * 2 + 1, none⟩ = some (.string p)) ∧ W.cell? ⟨b', o' + k * 2, none⟩ = some (.int .i64 z) ∧ W.cell? ⟨b', o' + k * 2 + 1, none⟩ = some (.string p))
        (first | exact HC.out _ HBE.out.drew | exact HC.out _ hb2 | exact HC.out _ HBE.out | go_keep)
        (((go_at_call 61; refine (HEQ.out _).mono ?_; rintro e w2 ⟨rfl, hl2⟩; have hb2 : Below w.heap.size w w2 := HBE.out.drew.trans (hl2.mono HBE.out.size))))
      go_wp2_with fail
      go_roundw
      case rel => exact ⟨k + 1, by omega, by go_num, hb2⟩
      case measure => simp [intOf]; omega
    · have hlt' : ¬ (k : Int) < (l.length : Int) := by omega
      go_wp2
      go_ret
      exact ⟨rfl, hbel⟩

set_option maxRecDepth 100000 in
theorem eqP1_any (A : ByteArray) (now : Int) (a a' : Option Addr) (c c' : Nat) (l : List Gn) (w : World) (hb : SrcG w a l) (hb' : SrcG w a' l) (hn : l.length ≤ 1048576) :
    Calls Tryd.prog 23 #[.agg #[.string A, .int .i64 now, .slice a l.length c], .agg #[.string A, .int .i64 now, .slice a' l.length c']] w fun e w' => e = .returned (.bool true) ∧ Below w.heap.size w w' := by
  have HEQ : Hid (∀ W, Below w.heap.size w W → Calls Tryd.prog 46 #[.slice a l.length c, .slice a' l.length c'] W fun e w' => e = .returned (.bool true) ∧ Below W.heap.size W w') := fun W h => eqG_any a a' c c' l W (hb.below h) (hb'.below h) hn
  clear hb hb'
  go_enter Tryd.func23, Tryd.ntmps23
  have hb2 : Below w.heap.size w ((w.alloc (.cells #[.string A, .int .i64 now, .slice a l.length c] 40)).alloc (.cells #[.string A, .int .i64 now, .slice a' l.length c'] 40)) := ((Below.refl _ _).alloc (Nat.le_refl _) _).alloc (by simp) _
  have HB2 : Hid (Below w.heap.size w ((w.alloc (.cells #[.string A, .int .i64 now, .slice a l.length c] 40)).alloc (.cells #[.string A, .int .i64 now, .slice a' l.length c'] 40))) := hb2
  clear hb2
  go_wp2_with (go_at_call 46; refine (HEQ.out _ (by first | exact HB2.out | exact HB2.out.drew)).mono ?_; rintro e w1 ⟨rfl, hl1⟩)
  go_ret
  first
    | exact ⟨by first | rfl | simp, HB2.out.trans (hl1.mono HB2.out.size)⟩
    | exact ⟨by first | rfl | simp, HB2.out.drew.trans (hl1.mono HB2.out.size)⟩

set_option maxRecDepth 100000 in
set_option maxHeartbeats 2000000 in
theorem eqP_any (a a' : Option Addr) (c c' : Nat) (ps : List Pr) (w : World) (hb : SrcP w a ps) (hb' : SrcP w a' ps) (hn : ps.length ≤ 1048576) (hg : ∀ x ∈ ps, x.gens.length ≤ 1048576) :
    Calls Tryd.prog 8 #[.slice a ps.length c, .slice a' ps.length c'] w fun e w' => e = .returned (.bool true) ∧ Below w.heap.size w w' := by
  have HB : Hid (SrcP w a ps) := hb
  have HB' : Hid (SrcP w a' ps) := hb'
  have HG : Hid (∀ x ∈ ps, x.gens.length ≤ 1048576) := hg
  clear hb hb' hg
  go_enter Tryd.func8, Tryd.ntmps8
  go_wp2
  go_loopw [5] (fun i wr => ∃ k : Nat, k ≤ ps.length ∧ i = .int .i64 (k : Int) ∧ Below w.heap.size w wr) (fun i _ => ps.length - (intOf i).toNat)
  case atStart => exact ⟨0, Nat.zero_le _, rfl, Below.refl _ _⟩
  case round =>
    obtain ⟨k, hk, rfl, hbel⟩ := hrel
    have HBE : Hid (Below w.heap.size w wr) := hbel
    by_cases hlt : k < ps.length
    · obtain ⟨x, hx⟩ : ∃ x, ps[k]? = some x := ⟨_, List.getElem?_eq_getElem hlt⟩
      rcases HB.out with h | ⟨b, o, rfl, hc⟩
      · rw [h] at hlt; simp at hlt
      rcases HB'.out with h | ⟨b', o', rfl, hc'⟩
      · rw [h] at hlt; simp at hlt
      have hlt' : (k : Int) < (ps.length : Int) := by omega
      have hk0 : (0 : Int) ≤ (k : Int) := by omega
      obtain ⟨u, cu, e0, e1, e2, e3⟩ := hc k x hx
      obtain ⟨u', cu', e0', e1', e2', e3'⟩ := hc' k x hx
      have K : ∀ {W : World} {q p v}, Below w.heap.size w W → w.cell? ⟨q, p, none⟩ = some v → W.cell? ⟨q, p, none⟩ = some v := fun {W q p v} hW h => (hW.cell (p := ⟨q, p, none⟩) (World.block_lt_of_cell? _ _ h)).trans h
      have HC : Hid (∀ W : World, Below w.heap.size w W → (W.cell? ⟨b, o + k * 3, none⟩ = some (.string x.name) ∧ W.cell? ⟨b, o + k * 3 + 1, none⟩ = some (.int .i64 x.now) ∧ W.cell? ⟨b, o + k * 3 + 2, none⟩ = some (.slice u x.gens.length cu)) ∧ W.cell? ⟨b', o' + k * 3, none⟩ = some (.string x.name) ∧ W.cell? ⟨b', o' + k * 3 + 1, none⟩ = some (.int .i64 x.now) ∧ W.cell? ⟨b', o' + k * 3 + 2, none⟩ = some (.slice u' x.gens.length cu')) := fun W h => ⟨⟨K h e0, K h e1, K h e2⟩, K h e0', K h e1', K h e2'⟩
      have HEQ : Hid (∀ W, Below w.heap.size w W → Calls Tryd.prog 23 #[.agg #[.string x.name, .int .i64 x.now, .slice u x.gens.length cu], .agg #[.string x.name, .int .i64 x.now, .slice u' x.gens.length cu']] W fun e w' => e = .returned (.bool true) ∧ Below W.heap.size W w') := fun W h => eqP1_any _ _ u u' cu cu' x.gens W (e3.below h) (e3'.below h) (HG.out x (List.mem_of_getElem? hx))
      obtain ⟨A, hA⟩ : ∃ P, x.name = P := ⟨_, rfl⟩
      obtain ⟨z, hz⟩ : ∃ z, x.now = z := ⟨_, rfl⟩
      obtain ⟨m, hm⟩ : ∃ z, x.gens.length = z := ⟨_, rfl⟩
      rw [hA, hz, hm] at HC HEQ
      clear hbel hc hc' hx HB HB' hA hz hm e0 e1 e2 e3 e0' e1' e2' e3' K
      go_wp2_with fail
      go_region_held3 (fun W => (W.cell? ⟨b, o + k * 3, none⟩ = some (.string A) ∧ W.cell? ⟨b, o + k * 3 + 1, none⟩ = some (.int .i64 z) ∧ W.cell? ⟨b, o + k * 3 + 2, none⟩ = some (.slice u m cu)) ∧ W.cell? ⟨b', o' + k * 3, none⟩ = some (.string A) ∧ W.cell? ⟨b', o' + k * 3 + 1, none⟩ = some (.int .i64 z) ∧ W.cell? ⟨b', o' + k * 3 + 2, none⟩ = some (.slice u' m cu'))
        (first | exact HC.out _ HBE.out.drew | exact HC.out _ hb2 | exact HC.out _ HBE.out | go_keep)
        (((go_at_call 23; refine (HEQ.out _ HBE.out.drew).mono ?_; rintro e w2 ⟨rfl, hl2⟩; have hb2 : Below w.heap.size w w2 := HBE.out.drew.trans (hl2.mono HBE.out.size))))
      go_wp2_with fail
      go_roundw
      case rel => exact ⟨k + 1, by omega, by go_num, hb2⟩
      case measure => simp [intOf]; omega
    · have hlt' : ¬ (k : Int) < (ps.length : Int) := by omega
      go_wp2
      go_ret
      exact ⟨rfl, hbel⟩

end Go.Proofs.YtoaccaiddifliaaDoor.pf
