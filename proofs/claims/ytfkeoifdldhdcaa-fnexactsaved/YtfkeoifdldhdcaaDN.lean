import Derived.Test.YtfkeoifdldhdcaaDM
import Derived.Deep.RegionHeld3
namespace Go.Proofs.Ytfkeoifdldhdcaa.dl
open Go.ChangeShapes Go.WideShapes Go.ChangeAt Go.RowKit Go.Deep
set_option linter.unusedVariables false
set_option linter.unusedSimpArgs false

/-! ### Steps: equal lists -/

theorem bel_drewN (w : World) (q : Nat) : Below w.heap.size w (w.drewN q) := ⟨rfl, rfl, rfl, Nat.le_refl _, fun _ _ => rfl⟩

theorem eqD_any (a a' : Option Addr) (c c' : Nat) (l : List UInt8) (w : World) (hb : SrcD w a l) (hb' : SrcD w a' l) (hn : l.length ≤ 1099511627776) :
    Calls Try.prog 9 #[.slice a l.length c, .slice a' l.length c'] w fun e w' => e = .returned (.bool true) ∧ Below w.heap.size w w' :=
  (sm.eq_any a a' l.length c c' (inB l) w hb hb' hn).mono fun e w' ⟨he, q, hq⟩ => ⟨he, by rw [hq]; exact bel_drewN _ _⟩

set_option maxRecDepth 100000 in
theorem eqS1_any (k p n : Int) (a a' : Option Addr) (c c' : Nat) (l : List UInt8) (w : World) (hb : SrcD w a l) (hb' : SrcD w a' l) (hn : l.length ≤ 1048576) :
    Calls Try.prog 19 #[.agg #[.int .i64 k, .int .i64 p, .int .i64 n, .slice a l.length c], .agg #[.int .i64 k, .int .i64 p, .int .i64 n, .slice a' l.length c']] w fun e w' => e = .returned (.bool true) ∧ Below w.heap.size w w' := by
  have HEQ : Hid (∀ W, Below w.heap.size w W → Calls Try.prog 9 #[.slice a l.length c, .slice a' l.length c'] W fun e w' => e = .returned (.bool true) ∧ Below W.heap.size W w') := fun W h => eqD_any a a' c c' l W (hb.below h) (hb'.below h) (by omega)
  clear hb hb'
  go_enter Try.func19, Try.ntmps19
  have hb2 : Below w.heap.size w ((w.alloc (.cells #[.int .i64 k, .int .i64 p, .int .i64 n, .slice a l.length c] 34)).alloc (.cells #[.int .i64 k, .int .i64 p, .int .i64 n, .slice a' l.length c'] 34)) := ((Below.refl _ _).alloc (Nat.le_refl _) _).alloc (by simp) _
  have HB2 : Hid (Below w.heap.size w ((w.alloc (.cells #[.int .i64 k, .int .i64 p, .int .i64 n, .slice a l.length c] 34)).alloc (.cells #[.int .i64 k, .int .i64 p, .int .i64 n, .slice a' l.length c'] 34))) := hb2
  clear hb2
  go_wp2_with (go_at_call 9; refine (HEQ.out _ (by first | exact HB2.out | exact HB2.out.drew)).mono ?_; rintro e w1 ⟨rfl, hl1⟩)
  go_ret
  first
    | exact ⟨by first | rfl | simp, HB2.out.trans (hl1.mono HB2.out.size)⟩
    | exact ⟨by first | rfl | simp, HB2.out.drew.trans (hl1.mono HB2.out.size)⟩

set_option maxRecDepth 100000 in
set_option maxHeartbeats 2000000 in
theorem eqS_any (a a' : Option Addr) (c c' : Nat) (ss : List Sp) (w : World) (hb : SrcS w a ss) (hb' : SrcS w a' ss) (hn : wt ss ≤ 1048576) :
    Calls Try.prog 8 #[.slice a ss.length c, .slice a' ss.length c'] w fun e w' => e = .returned (.bool true) ∧ Below w.heap.size w w' := by
  have hg : ∀ x ∈ ss, x.d.length ≤ 1048576 := fun x hx => Nat.le_trans (wt_d hx) hn
  replace hn : ss.length ≤ 1048576 := Nat.le_trans (wt_len ss) hn
  have HB : Hid (SrcS w a ss) := hb
  have HB' : Hid (SrcS w a' ss) := hb'
  have HG : Hid (∀ x ∈ ss, x.d.length ≤ 1048576) := hg
  clear hb hb' hg
  go_enter Try.func8, Try.ntmps8
  go_wp2
  go_loopw [5] (fun i wr => ∃ k : Nat, k ≤ ss.length ∧ i = .int .i64 (k : Int) ∧ Below w.heap.size w wr) (fun i _ => ss.length - (intOf i).toNat)
  case atStart => exact ⟨0, Nat.zero_le _, rfl, Below.refl _ _⟩
  case round =>
    obtain ⟨k, hk, rfl, hbel⟩ := hrel
    have HBE : Hid (Below w.heap.size w wr) := hbel
    by_cases hlt : k < ss.length
    · obtain ⟨x, hx⟩ : ∃ x, ss[k]? = some x := ⟨_, List.getElem?_eq_getElem hlt⟩
      rcases HB.out with h | ⟨b, o, rfl, hc⟩
      · rw [h] at hlt; simp at hlt
      rcases HB'.out with h | ⟨b', o', rfl, hc'⟩
      · rw [h] at hlt; simp at hlt
      have hlt' : (k : Int) < (ss.length : Int) := by omega
      have hk0 : (0 : Int) ≤ (k : Int) := by omega
      obtain ⟨u, cu, e0, e1, e2, e3, e4⟩ := hc k x hx
      obtain ⟨u', cu', e0', e1', e2', e3', e4'⟩ := hc' k x hx
      have K : ∀ {W : World} {q p v}, Below w.heap.size w W → w.cell? ⟨q, p, none⟩ = some v → W.cell? ⟨q, p, none⟩ = some v := fun {W q p v} hW h => (hW.cell (p := ⟨q, p, none⟩) (World.block_lt_of_cell? _ _ h)).trans h
      have HC : Hid (∀ W : World, Below w.heap.size w W → (W.cell? ⟨b, o + k * 4, none⟩ = some (.int .i64 x.k) ∧ W.cell? ⟨b, o + k * 4 + 1, none⟩ = some (.int .i64 x.p) ∧ W.cell? ⟨b, o + k * 4 + 2, none⟩ = some (.int .i64 x.n) ∧ W.cell? ⟨b, o + k * 4 + 3, none⟩ = some (.slice u x.d.length cu)) ∧ W.cell? ⟨b', o' + k * 4, none⟩ = some (.int .i64 x.k) ∧ W.cell? ⟨b', o' + k * 4 + 1, none⟩ = some (.int .i64 x.p) ∧ W.cell? ⟨b', o' + k * 4 + 2, none⟩ = some (.int .i64 x.n) ∧ W.cell? ⟨b', o' + k * 4 + 3, none⟩ = some (.slice u' x.d.length cu')) := fun W h => ⟨⟨K h e0, K h e1, K h e2, K h e3⟩, K h e0', K h e1', K h e2', K h e3'⟩
      have HEQ : Hid (∀ W, Below w.heap.size w W → Calls Try.prog 19 #[.agg #[.int .i64 x.k, .int .i64 x.p, .int .i64 x.n, .slice u x.d.length cu], .agg #[.int .i64 x.k, .int .i64 x.p, .int .i64 x.n, .slice u' x.d.length cu']] W fun e w' => e = .returned (.bool true) ∧ Below W.heap.size W w') := fun W h => eqS1_any _ _ _ u u' cu cu' x.d W (e4.below h) (e4'.below h) (HG.out x (List.mem_of_getElem? hx))
      obtain ⟨z0, hz0⟩ : ∃ z, x.k = z := ⟨_, rfl⟩
      obtain ⟨z1, hz1⟩ : ∃ z, x.p = z := ⟨_, rfl⟩
      obtain ⟨z2, hz2⟩ : ∃ z, x.n = z := ⟨_, rfl⟩
      obtain ⟨m, hm⟩ : ∃ z, x.d.length = z := ⟨_, rfl⟩
      rw [hz0, hz1, hz2, hm] at HC HEQ
      clear hbel hc hc' hx HB HB' hz0 hz1 hz2 hm e0 e1 e2 e3 e4 e0' e1' e2' e3' e4' K
      go_wp2_with fail
      go_region_held3 (fun W => (W.cell? ⟨b, o + k * 4, none⟩ = some (.int .i64 z0) ∧ W.cell? ⟨b, o + k * 4 + 1, none⟩ = some (.int .i64 z1) ∧ W.cell? ⟨b, o + k * 4 + 2, none⟩ = some (.int .i64 z2) ∧ W.cell? ⟨b, o + k * 4 + 3, none⟩ = some (.slice u m cu)) ∧ W.cell? ⟨b', o' + k * 4, none⟩ = some (.int .i64 z0) ∧ W.cell? ⟨b', o' + k * 4 + 1, none⟩ = some (.int .i64 z1) ∧ W.cell? ⟨b', o' + k * 4 + 2, none⟩ = some (.int .i64 z2) ∧ W.cell? ⟨b', o' + k * 4 + 3, none⟩ = some (.slice u' m cu'))
        (first | exact HC.out _ HBE.out.drew | exact HC.out _ hb2 | exact HC.out _ HBE.out | go_keep)
        (((go_at_call 19; refine (HEQ.out _ HBE.out.drew).mono ?_; rintro e w2 ⟨rfl, hl2⟩; have hb2 : Below w.heap.size w w2 := HBE.out.drew.trans (hl2.mono HBE.out.size))))
      go_wp2_with fail
      go_roundw
      case rel => exact ⟨k + 1, by omega, by go_num, hb2⟩
      case measure => simp [intOf]; omega
    · have hlt' : ¬ (k : Int) < (ss.length : Int) := by omega
      go_wp2
      go_ret
      exact ⟨rfl, hbel⟩

end Go.Proofs.Ytfkeoifdldhdcaa.dl
