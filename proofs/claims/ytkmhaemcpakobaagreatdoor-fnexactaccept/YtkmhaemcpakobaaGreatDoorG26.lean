import Derived.Test.YtkmhaemcpakobaaGreatDoorG25
import Derived.Test.YtkmhaemcpakobaaGreatDoorG02
import Derived.Lib.LaidTab
import Derived.Test.YtkmhaemcpakobaaGreatDoorG01
import Derived.OpenShut
import Derived.Test.YtkmhaemcpakobaaGreatDoorG07
import Derived.SliceStrings
import Derived.Test.YtkmhaemcpakobaaGreatDoorG11
import Derived.LaidLaws
namespace Go.Proofs.YtkmhaemcpakobaaGreatDoor.ac
open Go.ChangeShapes Go.WideShapes Go.ChangeAt Go.RowKit Go.Deep
set_option linter.unusedVariables false
set_option linter.unusedSimpArgs false

/-! ### Offers, and the law -/

def SrcD (w : World) (a : Option Addr) (l : List UInt8) : Prop := sm.Bs w a l.length (inL l)
theorem SrcD.below {w w' : World} {a : Option Addr} {l : List UInt8} (h : SrcD w a l) (hb : Below w.heap.size w w') : SrcD w' a l := sm.Bs.below h hb
theorem cellsBS : Tryz.prog.cellsOf 22 = 1 := by kernel_rfl
theorem cells9 : Tryz.prog.cellsOf 9 = 1 := by kernel_rfl
theorem cellsO : Tryz.prog.cellsOf 24 = 3 := by kernel_rfl

theorem open_bytes {H : Type} {enc : TypeId × Value → H} {w : World} {base : Nat} {sp : Nat → Bool} {held : Bool} {fuel : Nat} {cs : List Value} {x : DataW H × List MemPlace}
    (h : DataW.trod enc Tryz.prog w base sp held fuel 22 cs = some x) : ∃ a c, ∃ l : List UInt8, cs = [.slice a l.length c] ∧ SrcD w a l ∧ l.length ≤ maxLen := by
  rcases open_ints Tryz.underlying22 Tryz.underlying5 (by kernel_rfl) h with ⟨h0, _⟩ | ⟨a, len, cap, zs, rfl, _, hl, hm, hz, _, hcell, hwz⟩
  · exact ⟨none, 0, [], by simpa using h0, .inl rfl, Nat.zero_le _⟩
  · have hzl : len ≤ zs.length := by rw [hz]; split <;> omega
    have hlen : ((zs.take len).map (fun n => UInt8.ofNat n.toNat)).length = len := by rw [List.length_map, List.length_take]; omega
    refine ⟨some a, cap, (zs.take len).map (fun n => UInt8.ofNat n.toNat), by rw [hlen], ?_, by rw [hlen]; omega⟩
    unfold SrcD
    rcases Nat.eq_zero_or_pos len with h0 | h0
    · left
      rw [hlen]
      exact h0
    · obtain ⟨b, off, spot⟩ := a
      have hspot : spot = none := by simpa [Addr.add] using World.cell?_spot (hcell 0 (by omega))
      subst hspot
      refine .inr ⟨b, off, rfl, fun i hi => ?_⟩
      rw [hlen] at hi
      have h1 := hcell i (by omega)
      have h2 := hwz (zs.getD i 0) (by rw [List.getD_eq_getElem?_getD, List.getElem?_eq_getElem (by omega)]; exact List.getElem_mem _)
      rw [addr_add] at h1
      simp only [Lit.wf, Bool.and_eq_true, decide_eq_true_eq, show IntKind.u8.min = 0 from rfl, show IntKind.u8.max = 255 from rfl] at h2
      have h3 : zs.getD i 0 = zs[i]'(by omega) := by rw [List.getD_eq_getElem?_getD, List.getElem?_eq_getElem (by omega)]; rfl
      rw [h1]
      unfold inL
      rw [List.getElem?_map, List.getElem?_map, List.getElem?_take_of_lt hi, List.getElem?_eq_getElem (by omega)]
      simp only [Option.map_some, Option.getD_some]
      rw [h3] at h2 ⊢
      rw [UInt8.toNat_ofNat_of_lt' (by show _ < 256; omega), Int.toNat_of_nonneg h2.1]

def SrcO (w : World) (mi s : ByteArray) (a : Option Addr) (l : List UInt8) : Prop := SrcD w a l ∧ l.length ≤ maxLen ∧ mi.size ≤ maxLen ∧ s.size ≤ maxLen
set_option maxRecDepth 100000 in
theorem offer_cells {H : Type} {enc : TypeId × Value → H} {w : World} {held : Bool} {fuel : Nat} {cs : List Value} {x : DataW H × List MemPlace}
    (h : DataW.trod enc Tryz.prog w 0 (fun _ => true) held fuel 24 cs = some x) : ∃ (mi s : ByteArray) (a : Option Addr) (c : Nat) (l : List UInt8), cs = [.string mi, .string s, .slice a l.length c] ∧ SrcO w mi s a l := by
  obtain ⟨xs, n, _, rfl, hl, hlen, hf⟩ := DataW.trod_struct Tryz.underlying24 h
  rw [cellsO] at hl
  match xs, hlen, cs, hl with
  | [y0, y1, y2], _, [c0, c1, c2], _ =>
    have g0 := hf 0 _ rfl
    have g1 := hf 1 _ rfl
    have g2 := hf 2 _ rfl
    simp [cells9, cellsBS] at g0 g1 g2
    obtain ⟨z0, e0, _, hz0⟩ := DataW.trod_string Tryz.underlying9 g0
    obtain ⟨z1, e1, _, hz1⟩ := DataW.trod_string Tryz.underlying9 g1
    obtain ⟨a, c, l, e2, hs, hm⟩ := open_bytes g2
    simp at e0 e1 e2
    subst e0 e1 e2
    exact ⟨z0, z1, a, c, l, rfl, hs, hm, hz0, hz1⟩

theorem szB_any (a : Option Addr) (n cap : Nat) (left : Int) (w : World) (hl : 0 ≤ left ∧ left ≤ 1048576) (hn : n ≤ maxLen) :
    Calls Tryz.prog 12 #[.slice a n cap, .int .i64 left] w fun e w' => (∃ r : Int, e = .returned (.int .i64 r) ∧ (r = -1 ∨ 0 ≤ r ∧ r = left - (n : Int))) ∧ w' = w := by
  unfold maxLen at hn
  by_cases h : left - (n : Int) < 0
  · go_enter Tryz.func12, Tryz.ntmps12
    go_wp2
    go_ret
    exact ⟨⟨-1, rfl, .inl rfl⟩, rfl⟩
  · go_enter Tryz.func12, Tryz.ntmps12
    go_wp2
    go_ret
    exact ⟨⟨_, rfl, .inr ⟨by omega, rfl⟩⟩, rfl⟩

set_option maxHeartbeats 2000000 in
set_option maxRecDepth 100000 in
theorem szO_any (mi s : ByteArray) (a : Option Addr) (n cap : Nat) (w : World) (hn : n ≤ maxLen) (hm : mi.size ≤ maxLen) (hs : s.size ≤ maxLen) :
    Calls Tryz.prog 4 #[.agg #[.string mi, .string s, .slice a n cap], .int .i64 1048576] w fun e w' => (∃ r : Int, e = .returned (.int .i64 r) ∧ (r = -1 ∨ 0 ≤ r ∧ r = 1048576 - (mi.size : Int) - (s.size : Int) - (n : Int))) ∧ Below w.heap.size w w' := by
  have HB : Hid (∀ ob, Below w.heap.size w (w.alloc ob)) := fun ob => (Below.refl _ _).alloc (Nat.le_refl _) _
  have HSZ : Hid (∀ W (left : Int), 0 ≤ left → left ≤ 1048576 → Calls Tryz.prog 12 #[.slice a n cap, .int .i64 left] W fun e w' => (∃ r : Int, e = .returned (.int .i64 r) ∧ (r = -1 ∨ 0 ≤ r ∧ r = left - (n : Int))) ∧ w' = W) := fun W left h0 h1 => szB_any a n cap left W ⟨h0, h1⟩ hn
  unfold maxLen at hm hs
  clear hn
  by_cases h1 : 1048576 - (mi.size : Int) < 0
  · go_enter Tryz.func4, Tryz.ntmps4
    go_wp2
    go_ret
    exact ⟨⟨-1, rfl, .inl rfl⟩, HB.out _⟩
  by_cases h2 : 1048576 - (mi.size : Int) - (s.size : Int) < 0
  · go_enter Tryz.func4, Tryz.ntmps4
    go_wp2
    go_ret
    exact ⟨⟨-1, rfl, .inl rfl⟩, HB.out _⟩
  go_enter Tryz.func4, Tryz.ntmps4
  go_wp2_with (go_at_call 12; refine (HSZ.out _ _ (by omega) (by omega)).mono ?_; rintro e w1 ⟨⟨q, rfl, hq⟩, hw1⟩; obtain rfl := hw1.symm; clear hw1; refine Hid.out ?_)
  refine Lib.hid ?_
  rcases hq with rfl | ⟨hq0, hq1⟩
  · go_wp2
    go_ret
    exact ⟨⟨-1, rfl, .inl rfl⟩, HB.out _⟩
  · have HQ : Hid (q = 1048576 - (mi.size : Int) - (s.size : Int) - (n : Int)) := hq1
    clear hq1
    go_wp2
    go_ret
    exact ⟨⟨_, rfl, .inr ⟨hq0, HQ.out⟩⟩, HB.out _⟩

theorem ret_offer {fn : Func} {i : Tmp} (hf : fn.results = #[.cell i 29]) {tmps : Array Value} {W : World} {b : Nat} {v0 v1 v2 : Value} {R : Ending → World → Prop} (h4 : tmps.getD i undef = .pointer (some ⟨b, 0, none⟩))
    (k : W.cell? ⟨b, 0, none⟩ = some v0 ∧ W.cell? ⟨b, 1, none⟩ = some v1 ∧ W.cell? ⟨b, 2, none⟩ = some v2) (hR : R (.returned (.agg #[v0, v1, v2])) W) :
    bodyPost Tryz.prog fn R Exit.ret { tmps := tmps, defers := [] } W := by
  obtain ⟨k0, k1, k2⟩ := k
  have h4' : tmps[i]?.getD undef = .pointer (some ⟨b, 0, none⟩) := by simpa using h4
  exact bodyPost_ret (v := .agg #[v0, v1, v2]) (by simp [results, hf, go_sem, h4', k0, k1, k2]) rfl hR

theorem by_row {w : World} {g : Nat} {l : List UInt8} (h : w.rowIs g 5 l.length (fun i => .int .u8 ((inL l)[i]?.getD 0))) : up.By w g l := fun j hj => by
  rw [h.cell hj]
  simp [inL, hj]

theorem far {X : World} {b c i j : Nat} {v : Value} (h : b ≠ c) : (X.setCell ⟨b, i, none⟩ v).cell? ⟨c, j, none⟩ = X.cell? ⟨c, j, none⟩ := World.cell?_setCell_other X ⟨b, i, none⟩ ⟨c, j, none⟩ v (by simp [h])
theorem farF {X : World} {b c i j : Nat} {v : Value} : (X.setCell ⟨b, i, none⟩ v).frozen? ⟨c, j, none⟩ = X.frozen? ⟨c, j, none⟩ := by simp [go_sem]
theorem By.set {X : World} {b g i : Nat} {v : Value} {l : List UInt8} (h : up.By X g l) (hn : b ≠ g) : up.By (X.setCell ⟨b, i, none⟩ v) g l := fun j hj => (far hn).trans (h j hj)

def ToO (mi s : ByteArray) (l : List UInt8) (w : World) (e : Ending) (w' : World) : Prop := ∃ g, e = .returned (.agg #[.string mi, .string s, .slice (some ⟨g, 0, none⟩) l.length l.length]) ∧ up.By w' g l ∧ g < w'.heap.size ∧ w.heap.size ≤ g ∧ Below w.heap.size w w'

set_option maxHeartbeats 4000000 in
set_option maxRecDepth 100000 in
theorem toO_any (mi s : ByteArray) (a : Option Addr) (cap : Nat) (l : List UInt8) (w : World) (hb : SrcD w a l) (hl : l.length ≤ 1048576) :
    Calls Tryz.prog 7 #[.agg #[.string mi, .string s, .slice a l.length cap]] w fun e w' => ToO mi s l w e w' := by
  obtain ⟨n, hn⟩ : ∃ n, l.length = n := ⟨_, rfl⟩
  have HN : Hid (l.length = n) := hn
  have HTO : Hid (∀ W, Below w.heap.size w W → Calls Tryz.prog 21 #[.slice a n cap] W fun e w' => e = .returned (.slice (some ⟨W.heap.size, 0, none⟩) n n) ∧ (up.By w' W.heap.size l ∧ W.heap.size < w'.heap.size) ∧ Below W.heap.size W w') := fun W h => by
    rw [← hn]
    refine (sm.to_any a l.length cap (inL l) W (hb.below h) (by omega)).mono ?_
    rintro e w' ⟨rfl, hr, hl'⟩
    exact ⟨rfl, ⟨by_row hr, hr.lt⟩, hl'⟩
  rw [hn]
  clear hb hl hn
  obtain ⟨W3, hW3⟩ : ∃ W3, W3 = ((w.alloc (.cells #[.string mi, .string s, .slice a n cap] 24)).alloc (.cells #[.string ⟨#[]⟩, .string ⟨#[]⟩, .slice none 0 0] 29)).alloc (.cells #[.string mi, .string s, .slice none 0 0] 29) := ⟨_, rfl⟩
  have HW3 : Hid (W3 = ((w.alloc (.cells #[.string mi, .string s, .slice a n cap] 24)).alloc (.cells #[.string ⟨#[]⟩, .string ⟨#[]⟩, .slice none 0 0] 29)).alloc (.cells #[.string mi, .string s, .slice none 0 0] 29)) := hW3
  have HB3 : Hid (Below w.heap.size w W3) := by show Below _ _ _; rw [hW3]; exact (((Below.refl _ _).alloc (Nat.le_refl _) _).alloc (by simp) _).alloc (by simp; omega) _
  have HS3 : Hid (W3.heap.size = w.heap.size + 3) := by show _ = _; rw [hW3]; simp
  have HX : Hid (∀ W, Below W3.heap.size W3 W → (W.cell? ⟨w.heap.size + 1, 0, none⟩ = some (.string ⟨#[]⟩) ∧ W.cell? ⟨w.heap.size + 1, 1, none⟩ = some (.string ⟨#[]⟩) ∧ W.cell? ⟨w.heap.size + 1, 2, none⟩ = some (.slice none 0 0)) ∧ (W.cell? ⟨w.heap.size + 1 + 1, 0, none⟩ = some (.string mi) ∧ W.cell? ⟨w.heap.size + 1 + 1, 1, none⟩ = some (.string s) ∧ W.cell? ⟨w.heap.size + 1 + 1, 2, none⟩ = some (.slice none 0 0)) ∧ (∀ j, W.frozen? ⟨w.heap.size + 1, j, none⟩ = false) ∧ ∀ j, W.frozen? ⟨w.heap.size + 1 + 1, j, none⟩ = false) := fun W h => by
    have q := (bcell h).1
    have f := (bcell h).2
    refine ⟨⟨?_, ?_, ?_⟩, ⟨?_, ?_, ?_⟩, fun j => ?_, fun j => ?_⟩
    · rw [q _ _ (by rw [HS3.out]; omega), hW3]; simp [go_sem]
    · rw [q _ _ (by rw [HS3.out]; omega), hW3]; simp [go_sem]
    · rw [q _ _ (by rw [HS3.out]; omega), hW3]; simp [go_sem]
    · rw [q _ _ (by rw [HS3.out]; omega), hW3]; simp [go_sem]
    · rw [q _ _ (by rw [HS3.out]; omega), hW3]; simp [go_sem]
    · rw [q _ _ (by rw [HS3.out]; omega), hW3]; simp [go_sem]
    · rw [f _ _ (by rw [HS3.out]; omega), hW3]; simp [go_sem]
    · rw [f _ _ (by rw [HS3.out]; omega), hW3]; simp [go_sem]
  clear hW3
  go_enter Tryz.func7, Tryz.ntmps7
  go_wp2_with (go_at_call 21; refine (HTO.out _ (by rw [← HW3.out]; exact HB3.out)).mono ?_; rintro e w4 ⟨rfl, hby, hl4⟩; rw [← HW3.out] at hby hl4; refine Hid.out ?_)
  refine Lib.hid ?_
  have hs3 := HS3.out
  rw [hs3] at hby
  obtain ⟨⟨a0, a1, a2⟩, ⟨b0, b1, b2⟩, fa, fb⟩ := HX.out _ hl4
  have HA : Hid (w4.cell? ⟨w.heap.size + 1, 0, none⟩ = some (.string ⟨#[]⟩) ∧ w4.cell? ⟨w.heap.size + 1, 1, none⟩ = some (.string ⟨#[]⟩) ∧ w4.cell? ⟨w.heap.size + 1, 2, none⟩ = some (.slice none 0 0)) := ⟨a0, a1, a2⟩
  have HBY : Hid (up.By w4 (w.heap.size + 1 + 1 + 1) l ∧ w.heap.size + 1 + 1 + 1 < w4.heap.size) := hby
  have HL4 : Hid (Below w.heap.size w w4) := HB3.out.trans (hl4.mono HB3.out.size)
  have fb2 := fb 2
  have fa0 := fa 0
  have fa1 := fa 1
  have fa2 := fa 2
  have c0 : (w4.setCell ⟨w.heap.size + 1 + 1, 2, none⟩ (.slice (some ⟨w.heap.size + 1 + 1 + 1, 0, none⟩) n n)).cell? ⟨w.heap.size + 1 + 1, 0, none⟩ = some (.string mi) := (World.cell?_setCell_other _ _ _ _ (by simp)).trans b0
  have c1 : (w4.setCell ⟨w.heap.size + 1 + 1, 2, none⟩ (.slice (some ⟨w.heap.size + 1 + 1 + 1, 0, none⟩) n n)).cell? ⟨w.heap.size + 1 + 1, 1, none⟩ = some (.string s) := (World.cell?_setCell_other _ _ _ _ (by simp)).trans b1
  have c2 : (w4.setCell ⟨w.heap.size + 1 + 1, 2, none⟩ (.slice (some ⟨w.heap.size + 1 + 1 + 1, 0, none⟩) n n)).cell? ⟨w.heap.size + 1 + 1, 2, none⟩ = some (.slice (some ⟨w.heap.size + 1 + 1 + 1, 0, none⟩) n n) := World.cell?_setCell_same _ _ _ b2
  clear hby hl4 fa fb hs3
  go_wp2
  refine ret_offer Tryz.results7 rfl (three _ _ _ ⟨(far (by omega)).trans HA.out.1, (far (by omega)).trans HA.out.2.1, (far (by omega)).trans HA.out.2.2⟩) ⟨w.heap.size + 1 + 1 + 1, by rw [HN.out], ?_, ?_, by omega, ?_⟩
  · exact By.set (By.set (By.set (By.set HBY.out.1 (by omega)) (by omega)) (by omega)) (by omega)
  · have := HBY.out.2
    simpa using this
  · exact three_bel (HL4.out.setCell (by show _ ≤ w.heap.size + 1 + 1; omega) _) (by omega)

set_option maxHeartbeats 2000000 in
set_option maxRecDepth 100000 in
theorem eqO_any (mi s : ByteArray) (g h : Nat) (l : List UInt8) (w : World) (hg : up.By w g l) (hh : up.By w h l) (hl : l.length ≤ 1048576) :
    Calls Tryz.prog 10 #[.agg #[.string mi, .string s, .slice (some ⟨g, 0, none⟩) l.length l.length], .agg #[.string mi, .string s, .slice (some ⟨h, 0, none⟩) l.length l.length]] w fun e w' => e = .returned (.bool true) ∧ Below w.heap.size w w' := by
  have HEQ : Hid (∀ W, Below w.heap.size w W → Calls Tryz.prog 24 #[.slice (some ⟨g, 0, none⟩) l.length l.length, .slice (some ⟨h, 0, none⟩) l.length l.length] W fun e w' => e = .returned (.bool true) ∧ Below W.heap.size W w') := fun W hb => (sm.eq_any _ _ l.length l.length l.length (inL l) W ((by_bs hg).below hb) ((by_bs hh).below hb) (by omega)).mono fun e w' ⟨he, q, hq⟩ => ⟨he, by rw [hq]; exact Go.below_drewN (Below.refl _ _) q⟩
  have HB : Hid (∀ o1 o2, Below w.heap.size w ((w.alloc o1).alloc o2)) := fun o1 o2 => ((Below.refl _ _).alloc (Nat.le_refl _) _).alloc (by simp) _
  obtain ⟨n, hn⟩ : ∃ n, l.length = n := ⟨_, rfl⟩
  rw [hn] at HEQ ⊢
  clear hg hh hl hn
  go_enter Tryz.func10, Tryz.ntmps10
  go_wp2_with (go_at_call 24; refine (HEQ.out _ (HB.out _ _)).mono ?_; rintro e w1 ⟨rfl, hl1⟩)
  go_ret
  exact ⟨rfl, (HB.out _ _).trans (hl1.mono (HB.out _ _).size)⟩

set_option maxHeartbeats 8000000 in
set_option maxRecDepth 100000 in
theorem ac_law (mi s path : ByteArray) (a : Option Addr) (cap : Nat) (l : List UInt8) (ks : List ty.Tr) (ak : Option Addr) (ck : Nat) (w : World) (hO : SrcO w mi s a l) (hp : path.size ≤ maxLen) (hK : ty.SrcTr none w ak ks) (hkm : ty.SmTr ks) (hT : wd.TabB w) (hP : mt.PwT w) (hE : mt.EC w) (hML : mt.ML w) (hm : tt.ML w) :
    Calls Tryz.prog 3 #[.agg #[.string mi, .string s, .slice a l.length cap], .string path, .slice ak ks.length ck] w fun e w' => e = .returned (.bool true) ∧ Below w.heap.size w w' := by
  obtain ⟨hD, hlm, hmm, hsm⟩ := hO
  obtain ⟨W1, hW1⟩ : ∃ W1, W1 = w.alloc (.cells #[.string mi, .string s, .slice a l.length cap] 24) := ⟨_, rfl⟩
  have HB1 : Hid (Below w.heap.size w W1) := by show Below _ _ _; rw [hW1]; exact (Below.refl _ _).alloc (Nat.le_refl _) _
  have HS1 : Hid (W1.heap.size = w.heap.size + 1) := by show _ = _; rw [hW1]; simp
  unfold maxLen at hp
  by_cases hbig : 1048576 < path.size
  · have hbig' : (1048576 : Int) < (path.size : Int) := by omega
    clear hD hlm hmm hsm hK hkm hT hP hE hML hm
    rw [hW1] at HB1
    clear hW1
    go_enter Tryz.func3, Tryz.ntmps3
    go_wp2
    go_ret
    exact ⟨rfl, HB1.out⟩
  have hbig' : ¬ (1048576 : Int) < (path.size : Int) := by omega
  have HBX : Hid (∀ W, Below W1.heap.size W1 W → W.cell? ⟨w.heap.size, 0, none⟩ = some (.string mi) ∧ W.cell? ⟨w.heap.size, 1, none⟩ = some (.string s) ∧ W.cell? ⟨w.heap.size, 2, none⟩ = some (.slice a l.length cap)) := fun W h => by
    have q := (bcell h).1 w.heap.size
    rw [q 0 (by rw [HS1.out]; omega), q 1 (by rw [HS1.out]; omega), q 2 (by rw [HS1.out]; omega), hW1]
    exact ⟨by simp [go_sem], by simp [go_sem], by simp [go_sem]⟩
  have HBW : Hid (∀ W, Below W1.heap.size W1 W → Below w.heap.size w W) := fun W h => HB1.out.trans (h.mono HB1.out.size)
  have HSO : Hid (∀ W, Calls Tryz.prog 4 #[.agg #[.string mi, .string s, .slice a l.length cap], .int .i64 1048576] W fun e w' => (∃ r : Int, e = .returned (.int .i64 r) ∧ (r = -1 ∨ 0 ≤ r ∧ r = 1048576 - (mi.size : Int) - (s.size : Int) - (l.length : Int))) ∧ Below W.heap.size W w') := fun W => szO_any mi s a l.length cap W hlm hmm hsm
  have HSK : Hid (∀ W (r : Int), Below W1.heap.size W1 W → 0 ≤ r → r ≤ 1048576 → Calls Tryz.prog 5 #[.slice ak ks.length ck, .int .i64 r] W fun e w' => (∃ q : Int, e = .returned (.int .i64 q) ∧ (q = -1 ∨ 0 ≤ q ∧ q = r - (ty.wtTr ks : Int))) ∧ Below W.heap.size W w') := fun W r h h0 h1 => ty.szTr_any ak ck ks r W (hK.below (HBW.out W h)) hkm ⟨h0, h1⟩
  have HTO : Hid (∀ W, Below W1.heap.size W1 W → l.length ≤ 1048576 → Calls Tryz.prog 7 #[.agg #[.string mi, .string s, .slice a l.length cap]] W fun e w' => ToO mi s l W e w') := fun W h hl => toO_any mi s a cap l W (hD.below (HBW.out W h)) hl
  have HTK : Hid (∀ W, Below W1.heap.size W1 W → ty.wtTr ks ≤ 1048576 → Calls Tryz.prog 8 #[.slice ak ks.length ck] W fun e w' => e = .returned (.slice (some ⟨W.heap.size, 0, none⟩) ks.length ks.length) ∧ ty.SrcTr (some W.heap.size) w' (some ⟨W.heap.size, 0, none⟩) ks ∧ Below W.heap.size W w') := fun W h hw => ty.toTr_any ak ck ks W (hK.below (HBW.out W h)) hw
  have HU : Hid (∀ x ∈ ks, ty.U64 x.fN ∧ ty.U64 x.fE) := fun x hx => (hkm.2 x hx).2
  have HSP : Hid (∀ W g kb, Below W1.heap.size W1 W → up.By W g l → g < W.heap.size → ty.SrcTr none W (some ⟨kb, 0, none⟩) ks → s.size ≤ 1048576 → l.length ≤ 1048576 → ty.wtTr ks ≤ 1048576 → Calls Tryz.prog 6 #[.agg #[.string mi, .string s, .slice (some ⟨g, 0, none⟩) l.length l.length], .string path, .slice (some ⟨kb, 0, none⟩) ks.length ks.length] W fun e w' => e = .returned (.int .i64 (acV s path ks l)) ∧ Below W.heap.size W w') := fun W g kb h hb hg hk h1 h2 h3 => sac_any mi s path g l ks _ ks.length W h1 h2 hb hg hk (by have := ty.wtTr_len ks; omega) HU.out
  have HIP : Hid (∀ W g kb, Below W1.heap.size W1 W → up.By W g l → g < W.heap.size → ty.SrcTr none W (some ⟨kb, 0, none⟩) ks → s.size ≤ 1048576 → l.length ≤ 1048576 → ty.wtTr ks ≤ 1048576 → Calls Tryz.prog 9 #[.agg #[.string mi, .string s, .slice (some ⟨g, 0, none⟩) l.length l.length], .string path, .slice (some ⟨kb, 0, none⟩) ks.length ks.length] W fun e w' => e = .returned (.int .i64 (acV s path ks l)) ∧ Below W.heap.size W w') := fun W g kb h hb hg hk h1 h2 h3 => iac_any mi s path g l ks _ ks.length W h1 h2 hb hg hk (by have := ty.wtTr_len ks; omega) HU.out (hT.below (HBW.out W h)) (hP.below (HBW.out W h)) (hE.below (HBW.out W h)) (hML.below (HBW.out W h)) (hm.below (HBW.out W h))
  have HEO : Hid (∀ W g g', up.By W g l → up.By W g' l → l.length ≤ 1048576 → Calls Tryz.prog 10 #[.agg #[.string mi, .string s, .slice (some ⟨g, 0, none⟩) l.length l.length], .agg #[.string mi, .string s, .slice (some ⟨g', 0, none⟩) l.length l.length]] W fun e w' => e = .returned (.bool true) ∧ Below W.heap.size W w') := fun W g g' h1 h2 h3 => eqO_any mi s g g' l W h1 h2 h3
  have HEK : Hid (∀ W k k', ty.SrcTr none W (some ⟨k, 0, none⟩) ks → ty.SrcTr none W (some ⟨k', 0, none⟩) ks → ty.wtTr ks ≤ 1048576 → Calls Tryz.prog 11 #[.slice (some ⟨k, 0, none⟩) ks.length ks.length, .slice (some ⟨k', 0, none⟩) ks.length ks.length] W fun e w' => e = .returned (.bool true) ∧ Below W.heap.size W w') := fun W k k' h1 h2 h3 => ty.eqTr_any _ _ _ _ ks W h1 h2 h3
  obtain ⟨V, hV⟩ : ∃ V, acV s path ks l = V := ⟨_, rfl⟩
  rw [hV] at HSP HIP
  obtain ⟨n, hn⟩ : ∃ n, l.length = n := ⟨_, rfl⟩
  obtain ⟨k, hk⟩ : ∃ n, ks.length = n := ⟨_, rfl⟩
  obtain ⟨wt, hwt⟩ : ∃ n, ty.wtTr ks = n := ⟨_, rfl⟩
  have HN : Hid (l.length = n) := hn
  have HW1 : Hid (W1 = w.alloc (.cells #[.string mi, .string s, .slice a n cap] 24)) := by show _ = _; rw [hW1, hn]
  rw [hn] at HBX HSO HTO HSP HIP HEO ⊢
  rw [hk] at HSK HTK HSP HIP HEK ⊢
  rw [hwt] at HSK HTK HSP HIP HEK
  clear hD hlm hmm hsm hK hkm hT hP hE hML hm hV hn hk hwt hW1 hbig hp
  go_enter Tryz.func3, Tryz.ntmps3
  go_wp2_with (go_at_call 4; rw [← HW1.out]; refine (HSO.out _).mono ?_; rintro e w2 ⟨⟨r, rfl, hr⟩, hl2⟩; refine Hid.out ?_)
  refine Lib.hid ?_
  have HL2 : Hid (Below W1.heap.size W1 w2) := hl2
  clear hl2
  rcases hr with rfl | ⟨hr0, hr1⟩
  · go_wp2
    go_ret
    exact ⟨rfl, HBW.out _ HL2.out⟩
  have hr2 : r ≤ 1048576 := by omega
  have HLS : Hid (s.size ≤ 1048576 ∧ n ≤ 1048576) := ⟨by omega, by omega⟩
  clear hr1
  go_wp2_with (go_at_call 5; refine (HSK.out _ _ HL2.out hr0 hr2).mono ?_; rintro e w3 ⟨⟨q, rfl, hq⟩, hl3⟩; refine Hid.out ?_)
  refine Lib.hid ?_
  have HL3 : Hid (Below W1.heap.size W1 w3) := HL2.out.trans (hl3.mono HL2.out.size)
  clear hl3
  rcases hq with rfl | ⟨hq0, hq1⟩
  · go_wp2
    go_ret
    exact ⟨rfl, HBW.out _ HL3.out⟩
  have HWT : Hid (wt ≤ 1048576) := by show _ ≤ _; omega
  clear hq1 hr2 hr0
  obtain ⟨x0, x1, x2⟩ := HBX.out _ HL3.out
  go_wp2_with (go_at_call 7; refine (HTO.out _ HL3.out HLS.out.2).mono ?_; rintro e w4 ⟨g4, rfl, hb4, hg4, hlo4, hl4⟩; rw [HN.out]; refine Hid.out ?_)
  refine Lib.hid ?_
  have HL4 : Hid (Below W1.heap.size W1 w4) := HL3.out.trans (hl4.mono HL3.out.size)
  have HB4 : Hid (up.By w4 g4 l ∧ g4 < w4.heap.size) := ⟨hb4, hg4⟩
  clear hl4 hb4 hg4 hlo4 x0 x1 x2
  go_wp2_with (go_at_call 8; refine (HTK.out _ HL4.out HWT.out).mono ?_; rintro e w5 ⟨rfl, hk5, hl5⟩; refine Hid.out ?_)
  refine Lib.hid ?_
  have HL5 : Hid (Below W1.heap.size W1 w5) := HL4.out.trans (hl5.mono HL4.out.size)
  have HB5 : Hid (up.By w5 g4 l ∧ g4 < w5.heap.size) := ⟨HB4.out.1.below hl5, Nat.lt_of_lt_of_le HB4.out.2 hl5.size⟩
  have HK5 : Hid (ty.SrcTr none w5 (some ⟨w4.heap.size, 0, none⟩) ks) := hk5.any
  clear hl5 hk5
  go_wp2_with (go_at_call 6; refine (HSP.out _ _ _ HL5.out HB5.out.1 HB5.out.2 HK5.out HLS.out.1 HLS.out.2 HWT.out).mono ?_; rintro e w6 ⟨rfl, hl6⟩; refine Hid.out ?_)
  refine Lib.hid ?_
  have HL6 : Hid (Below W1.heap.size W1 w6) := HL5.out.trans (hl6.mono HL5.out.size)
  clear hl6
  obtain ⟨x0, x1, x2⟩ := HBX.out _ HL6.out
  go_wp2_with (go_at_call 7; refine (HTO.out _ HL6.out HLS.out.2).mono ?_; rintro e w7 ⟨g7, rfl, hb7, hg7, hlo7, hl7⟩; rw [HN.out]; refine Hid.out ?_)
  refine Lib.hid ?_
  have HL7 : Hid (Below W1.heap.size W1 w7) := HL6.out.trans (hl7.mono HL6.out.size)
  obtain ⟨W8, hW8⟩ : ∃ W8, W8 = w7.alloc (.cells #[.string mi, .string s, .slice (some ⟨g7, 0, none⟩) n n] 29) := ⟨_, rfl⟩
  have HW8 : Hid (W8 = w7.alloc (.cells #[.string mi, .string s, .slice (some ⟨g7, 0, none⟩) n n] 29)) := hW8
  have HB78 : Hid (Below w7.heap.size w7 W8) := by show Below _ _ _; rw [hW8]; exact (Below.refl _ _).alloc (Nat.le_refl _) _
  have HL8 : Hid (Below W1.heap.size W1 W8) := HL7.out.trans (HB78.out.mono HL7.out.size)
  have HS8 : Hid (W8.heap.size = w7.heap.size + 1) := by show _ = _; rw [hW8]; simp
  have HB8 : Hid (up.By W8 g7 l ∧ g7 < W8.heap.size) := ⟨hb7.below HB78.out, by have := HS8.out; omega⟩
  have HX8 : Hid (∀ W, Below W8.heap.size W8 W → W.cell? ⟨w7.heap.size, 0, none⟩ = some (.string mi) ∧ W.cell? ⟨w7.heap.size, 1, none⟩ = some (.string s) ∧ W.cell? ⟨w7.heap.size, 2, none⟩ = some (.slice (some ⟨g7, 0, none⟩) n n)) := fun W h => by
    have q := (bcell h).1 w7.heap.size
    rw [q 0 (by rw [HS8.out]; omega), q 1 (by rw [HS8.out]; omega), q 2 (by rw [HS8.out]; omega), hW8]
    exact ⟨by simp [go_sem], by simp [go_sem], by simp [go_sem]⟩
  clear hl7 hb7 hg7 hlo7 x0 x1 x2 hW8
  go_wp2_with (go_at_call 8; rw [← HW8.out]; refine (HTK.out _ HL8.out HWT.out).mono ?_; rintro e w9 ⟨rfl, hk9, hl9⟩; have HSZ8 : Hid (W8.heap.size = w7.heap.size + 1) := HS8.out; refine Hid.out ?_)
  refine Lib.hid ?_
  have HE9 : Hid (Below W8.heap.size W8 w9) := hl9
  have HL9 : Hid (Below W1.heap.size W1 w9) := HL8.out.trans (hl9.mono HL8.out.size)
  have HB9 : Hid (up.By w9 g7 l ∧ g7 < w9.heap.size) := ⟨HB8.out.1.below hl9, Nat.lt_of_lt_of_le HB8.out.2 hl9.size⟩
  have HK9 : Hid (ty.SrcTr none w9 (some ⟨W8.heap.size, 0, none⟩) ks) := hk9.any
  clear hl9 hk9
  obtain ⟨y0, y1, y2⟩ := HX8.out _ HE9.out
  go_wp2_with (go_at_call 9; refine (HIP.out _ _ _ HL9.out HB9.out.1 HB9.out.2 HK9.out HLS.out.1 HLS.out.2 HWT.out).mono ?_; rintro e w10 ⟨rfl, hl10⟩; refine Hid.out ?_)
  refine Lib.hid ?_
  have HE10 : Hid (Below W8.heap.size W8 w10) := HE9.out.trans (hl10.mono HE9.out.size)
  have HL10 : Hid (Below W1.heap.size W1 w10) := HL9.out.trans (hl10.mono HL9.out.size)
  have HB10 : Hid (up.By w10 g7 l) := HB9.out.1.below hl10
  have HK10 : Hid (ty.SrcTr none w10 (some ⟨W8.heap.size, 0, none⟩) ks) := HK9.out.below hl10
  have HE10d : Hid (Below W8.heap.size W8 w10.drew) := HE10.out.drew
  have HL10d : Hid (Below W1.heap.size W1 w10.drew) := HL10.out.drew
  have HD10 : Hid (Below w10.heap.size w10 w10.drew) := (Below.refl _ _).drew
  clear hl10 y0 y1 y2
  go_wp2_with fail
  refine wq 5 (S := fun W => (W.cell? ⟨w7.heap.size, 0, none⟩ = some (.string mi) ∧ W.cell? ⟨w7.heap.size, 1, none⟩ = some (.string s) ∧ W.cell? ⟨w7.heap.size, 2, none⟩ = some (.slice (some ⟨g7, 0, none⟩) n n)) ∧ (W.cell? ⟨w.heap.size, 0, none⟩ = some (.string mi) ∧ W.cell? ⟨w.heap.size, 1, none⟩ = some (.string s) ∧ W.cell? ⟨w.heap.size, 2, none⟩ = some (.slice a n cap))) (by kernel_rfl) ⟨HX8.out _ HE10d.out, HBX.out _ HL10d.out⟩ fun hHeld => ?_
  refine uq (i := 0) rfl ?_
  try simp only [aP]
  refine uq (i := 1) rfl ?_
  try simp only [aP]
  refine rq 2 rfl fun K hK => ?_
  go_simp
  go_at_call 7
  refine (HTO.out _ HL10d.out HLS.out.2).mono ?_
  rintro e w11 ⟨g11, rfl, hb11, hg11, hlo11, hl11⟩
  rw [HN.out]
  have HE11 : Hid (Below W8.heap.size W8 w11) := HE10d.out.trans (hl11.mono HE10d.out.size)
  have HL11 : Hid (Below W1.heap.size W1 w11) := HL10d.out.trans (hl11.mono HL10d.out.size)
  have HB11 : Hid (up.By w11 g7 l ∧ up.By w11 g11 l) := ⟨(HB10.out.below HD10.out).below hl11, hb11⟩
  have HK11 : Hid (ty.SrcTr none w11 (some ⟨W8.heap.size, 0, none⟩) ks) := (HK10.out.below HD10.out).below hl11
  clear hl11 hb11 hg11 hlo11
  try go_wp2_with fail
  refine hK.out _ _ (⟨HX8.out _ HE11.out, HBX.out _ HL11.out⟩) (fun hHeld => ?_)
  clear hK K
  try simp only [aP]
  refine rq 3 rfl fun K hK => ?_
  go_simp
  go_at_call 10
  refine (HEO.out _ _ _ HB11.out.1 HB11.out.2 HLS.out.2).mono ?_
  rintro e w12 ⟨rfl, hl12⟩
  have HE12 : Hid (Below W8.heap.size W8 w12) := HE11.out.trans (hl12.mono HE11.out.size)
  have HL12 : Hid (Below W1.heap.size W1 w12) := HL11.out.trans (hl12.mono HL11.out.size)
  have HK12 : Hid (ty.SrcTr none w12 (some ⟨W8.heap.size, 0, none⟩) ks) := HK11.out.below hl12
  clear hl12
  try go_wp2_with fail
  refine hK.out _ _ (⟨HX8.out _ HE12.out, HBX.out _ HL12.out⟩) (fun hHeld => ?_)
  clear hK K
  try simp only [aP]
  refine uq (i := 4) rfl ?_
  try simp only [aP]
  refine dq ?_
  go_wp2_with (go_at_call 8; refine (HTK.out _ HL12.out HWT.out).mono ?_; rintro e w13 ⟨rfl, hk13, hl13⟩; refine Hid.out ?_)
  refine Lib.hid ?_
  have HL13 : Hid (Below W1.heap.size W1 w13) := HL12.out.trans (hl13.mono HL12.out.size)
  have HK13 : Hid (ty.SrcTr none w13 (some ⟨W8.heap.size, 0, none⟩) ks) := HK12.out.below hl13
  have HJ13 : Hid (ty.SrcTr none w13 (some ⟨w12.heap.size, 0, none⟩) ks) := hk13.any
  clear hl13 hk13
  go_wp2_with (go_at_call 11; refine (HEK.out _ _ _ HK13.out HJ13.out HWT.out).mono ?_; rintro e w14 ⟨rfl, hl14⟩)
  go_ret
  exact ⟨rfl, HBW.out _ (HL13.out.trans (hl14.mono HL13.out.size))⟩

end Go.Proofs.YtkmhaemcpakobaaGreatDoor.ac

namespace Go.Proofs.YtkmhaemcpakobaaGreatDoor.lt
open Go.ChangeShapes Go.WideShapes Go.ChangeAt Go.RowKit Go.Deep
set_option linter.unusedVariables false

/-! the table as it is laid -/
theorem laid_skip {P : Program} {W : World} {x : String × DataW Unit} {rest : List (String × DataW Unit)} {ps : List MemPlace} (h : DataW.LaidVars P W (x :: rest) ps) : ∃ q, DataW.LaidVars P W rest q := by
  obtain ⟨g, t, cs, fuel, p, q, _, _, _, _, hr, _⟩ := h
  exact ⟨q, hr⟩
theorem laid_tab {P : Program} {W : World} {name : String} {k : IntKind} {zs : List Int} {rest : List (String × DataW Unit)} {ps : List MemPlace} {g : Nat} {t e : TypeId} {n : Nat}
    (hg : P.globalNamed name = some g) (hty : (P.globals[g]?).map (·.type) = some t) (ht : P.underlying t = some (.array n e)) (he : P.underlying e = some (.int k)) (hce : P.cellsOf e = 1) (hct : P.cellsOf t = n)
    (h : DataW.LaidVars P W ((name, Lib.tabData k zs) :: rest) ps) : Lib.TabIs P W name k zs := by
  obtain ⟨g', t', cs, fuel, p, q, hg', ht', hvar, hd, _, _⟩ := h
  obtain rfl := Option.some.inj (hg.symm.trans hg')
  obtain rfl := Option.some.inj (hty.symm.trans ht')
  unfold Lib.TabIs
  rw [hvar, ← Lib.cells_of_tab ht he hce hct hd]
def letZ : List Int := [48, 49, 50, 51, 52, 53, 54, 55, 56, 57, 97, 98, 99, 100, 102, 103, 104, 105, 106, 107, 108, 109, 110, 112, 113, 114, 115, 118, 119, 120, 121, 122]
theorem gLet : Tryz.prog.globalNamed "loop.example/g00023/impl.wordLetters" = some 0 := by kernel_rfl
theorem gLetType : (Tryz.prog.globals[0]?).map (·.type) = some 106 := by kernel_rfl
theorem cLet : Tryz.prog.cellsOf 106 = 32 := by kernel_rfl
theorem cLetE : Tryz.prog.cellsOf 5 = 1 := by kernel_rfl
theorem let_of {W : World} {ps : List MemPlace} {rest : List (String × DataW Unit)} (h : DataW.LaidVars Tryz.prog W (("loop.example/g00023/impl.wordLetters", Lib.tabData .u8 letZ) :: rest) ps) : Lib.TabIs Tryz.prog W "loop.example/g00023/impl.wordLetters" .u8 letZ :=
  laid_tab gLet gLetType Tryz.underlying106 Tryz.underlying5 cLetE cLet h
theorem tabB_of {W : World} (h : Lib.TabIs Tryz.prog W "loop.example/g00023/impl.wordLetters" .u8 letZ) : wd.TabB W := by
  unfold Lib.TabIs World.var? at h
  rw [gLet] at h
  simp only [Option.bind_some] at h
  split at h
  · rename_i cs t fr hb
    rw [Option.some.injEq] at h
    subst h
    exact ⟨t, fr, hb⟩
  · cases h

end Go.Proofs.YtkmhaemcpakobaaGreatDoor.lt

namespace Go.Proofs.YtkmhaemcpakobaaGreatDoor.sg
open Go.ChangeShapes Go.WideShapes Go.ChangeAt Go.RowKit Go.Deep
set_option linter.unusedVariables false

theorem u64_nat {a : Int} (h : (Lit.int .u64 a).wf = true) : ∃ n : Nat, a = (n : Int) ∧ n < 18446744073709551616 := by
  simp only [Lit.wf, Bool.and_eq_true, decide_eq_true_eq, show IntKind.u64.min = 0 from rfl, show IntKind.u64.max = 18446744073709551615 from rfl] at h
  exact ⟨a.toNat, by omega, by omega⟩

end Go.Proofs.YtkmhaemcpakobaaGreatDoor.sg

namespace Go.Proofs.YtkmhaemcpakobaaGreatDoor.mt
open Go.ChangeShapes Go.WideShapes Go.ChangeAt Go.RowKit Go.Deep
set_option linter.unusedVariables false

/-! ### A manifest that came in, and the tables as they are laid -/

theorem gPowType : (Tryz.prog.globals[4]?).map (·.type) = some 190 := by kernel_rfl
theorem cPow : Tryz.prog.cellsOf 190 = 20 := by kernel_rfl
theorem cPowE : Tryz.prog.cellsOf 38 = 1 := by kernel_rfl
theorem pow_of {W : World} {ps : List MemPlace} {rest : List (String × DataW Unit)} (h : DataW.LaidVars Tryz.prog W (("internal/strconv.uint64pow10", Lib.tabData .u64 Lib.pow10Tab) :: rest) ps) : PwT W :=
  lt.laid_tab gPow gPowType Tryz.underlying190 Tryz.underlying38 cPowE cPow h

/-- What a manifest that came in holds. -/
def SrcM (w : World) (path sum key : ByteArray) (sig : Nat) (l : List ByteArray) (a : Option Addr) (n : Nat) : Prop :=
  st.Ss w a n l ∧ n ≤ maxLen ∧ (∀ i, i < n → (st.atS l i).size ≤ maxLen) ∧ path.size ≤ maxLen ∧ sum.size ≤ maxLen ∧ key.size ≤ maxLen ∧ sig < 18446744073709551616

end Go.Proofs.YtkmhaemcpakobaaGreatDoor.mt

namespace Go.Proofs.YtkmhaemcpakobaaGreatDoor.mt
open Go.ChangeShapes Go.WideShapes Go.ChangeAt Go.RowKit Go.Deep
set_option linter.unusedVariables false

/-! ### The library's errors as they are laid -/
theorem err_of {P : Program} {W : World} {name nm : String} {d : DataW Unit} {rest : List (String × DataW Unit)} {ps : List MemPlace} {g : Nat} {ti : TypeId} {ms : Array (String × TypeId)}
    (hg : P.globalNamed name = some g) (hty : (P.globals[g]?).map (·.type) = some ti) (hi : P.underlying ti = some (.interface ms)) (h : DataW.LaidVars P W ((name, .iface nm d) :: rest) ps) : ∃ ev, W.cell? ⟨g, 0, none⟩ = some ev ∧ (ev = .nilIface ∨ ∃ te pe, ev = .iface te pe) := by
  obtain ⟨g', t', cs, fuel, p, q, hg', ht', hvar, hd, _, _⟩ := h
  obtain rfl := Option.some.inj (hg.symm.trans hg')
  obtain rfl := Option.some.inj (hty.symm.trans ht')
  obtain ⟨f1, u, v, hcs, _, _⟩ := iface_of_trod hi hd
  have h0 := World.var?_cell hg' hvar 0
  obtain ⟨cl⟩ := cs
  subst hcs
  exact ⟨.iface u v, by simpa using h0, .inr ⟨u, v, rfl⟩⟩
theorem gSyn : Tryz.prog.globalNamed "strconv.ErrSyntax" = some (Tryz.rmPI_ren.g 15) := by kernel_rfl
theorem gSynT : (Tryz.prog.globals[Tryz.rmPI_ren.g 15]?).map (·.type) = some 126 := by kernel_rfl
theorem gRan : Tryz.prog.globalNamed "strconv.ErrRange" = some (Tryz.rmPI_ren.g 16) := by kernel_rfl
theorem gRanT : (Tryz.prog.globals[Tryz.rmPI_ren.g 16]?).map (·.type) = some 126 := by kernel_rfl

end Go.Proofs.YtkmhaemcpakobaaGreatDoor.mt
