import Derived.Test.YtkmhaemcpakobaaGreatDoorG21
import Derived.Test.YtkmhaemcpakobaaGreatDoorG06
import Derived.Test.YtkmhaemcpakobaaGreatDoorG20
import Derived.Test.YtkmhaemcpakobaaGreatDoorG12
import Derived.Deep.RegionHeld3
namespace Go.Proofs.YtkmhaemcpakobaaGreatDoor.ac
open Go.ChangeShapes Go.WideShapes Go.ChangeAt Go.RowKit Go.Deep
set_option linter.unusedVariables false
set_option linter.unusedSimpArgs false

/-! ### Accept: the program -/

theorem ret_open {fn : Func} {i : Tmp} (hf : fn.results = #[.cell i 58]) {tmps : Array Value} {W : World} {b : Nat} {v0 v1 v2 : Value} {R : Ending → World → Prop} (h4 : tmps.getD i undef = .pointer (some ⟨b, 0, none⟩))
    (k : W.cell? ⟨b, 0, none⟩ = some v0 ∧ W.cell? ⟨b, 1, none⟩ = some v1 ∧ W.cell? ⟨b, 2, none⟩ = some v2) (hR : R (.returned (.agg #[v0, v1, v2])) W) :
    bodyPost Tryz.prog fn R Exit.ret { tmps := tmps, defers := [] } W := by
  obtain ⟨k0, k1, k2⟩ := k
  have h4' : tmps[i]?.getD undef = .pointer (some ⟨b, 0, none⟩) := by simpa using h4
  exact bodyPost_ret (v := .agg #[v0, v1, v2]) (by simp [results, hf, go_sem, h4', k0, k1, k2]) rfl hR
theorem three {W : World} {b : Nat} {u0 u1 u2 : Value} (v0 v1 v2 : Value) (h : W.cell? ⟨b, 0, none⟩ = some u0 ∧ W.cell? ⟨b, 1, none⟩ = some u1 ∧ W.cell? ⟨b, 2, none⟩ = some u2) :
    (((W.setCell ⟨b, 0, none⟩ v0).setCell ⟨b, 1, none⟩ v1).setCell ⟨b, 2, none⟩ v2).cell? ⟨b, 0, none⟩ = some v0 ∧ (((W.setCell ⟨b, 0, none⟩ v0).setCell ⟨b, 1, none⟩ v1).setCell ⟨b, 2, none⟩ v2).cell? ⟨b, 1, none⟩ = some v1 ∧ (((W.setCell ⟨b, 0, none⟩ v0).setCell ⟨b, 1, none⟩ v1).setCell ⟨b, 2, none⟩ v2).cell? ⟨b, 2, none⟩ = some v2 := by
  have o : ∀ (X : World) (i j : Nat) (v : Value), i ≠ j → (X.setCell ⟨b, i, none⟩ v).cell? ⟨b, j, none⟩ = X.cell? ⟨b, j, none⟩ := fun X i j v h => World.cell?_setCell_other X ⟨b, i, none⟩ ⟨b, j, none⟩ v (by simp [h])
  obtain ⟨h0, h1, h2⟩ := h
  refine ⟨?_, ?_, ?_⟩
  · rw [o _ _ _ _ (by omega), o _ _ _ _ (by omega)]
    exact World.cell?_setCell_same _ _ _ h0
  · rw [o _ _ _ _ (by omega)]
    exact World.cell?_setCell_same _ _ _ ((o _ _ _ _ (by omega)).trans h1)
  · exact World.cell?_setCell_same _ _ _ ((o _ _ _ _ (by omega)).trans ((o _ _ _ _ (by omega)).trans h2))
theorem three_bel {w W : World} {B b : Nat} {v0 v1 v2 : Value} (h : Below B w W) (hb : B ≤ b) : Below B w (((W.setCell ⟨b, 0, none⟩ v0).setCell ⟨b, 1, none⟩ v1).setCell ⟨b, 2, none⟩ v2) := ((h.setCell hb _).setCell hb _).setCell hb _

/-- What ReadManifest leaves, with the row's address in sight. -/
def RdS (M : mt.Mf) (R : Bool) (w w' : World) (e : Ending) : Prop := ∃ av cv, e = .returned (.tuple #[.agg #[.string M.path, .string M.sum, .int .i64 M.z, .slice av M.l.length cv, .string M.key, .int .u64 (M.sig : Int)], .bool R]) ∧ st.Ss w' av M.l.length M.l ∧ (R = true → ∃ g, av = some ⟨g, 0, none⟩ ∧ M.l.length ≤ cv ∧ cv ≤ maxLen) ∧ Below w.heap.size w w'
theorem rds_of {s : ByteArray} {w w' : World} {e : Ending} (h : mt.RdR w w' s e) : RdS (mt.rdM s.data.toList) (mt.rdB s.data.toList) w w' e := by
  obtain ⟨vr, rfl, hg, hc, hl⟩ := h
  rcases hg with ⟨rfl, hl0⟩ | ⟨g, c, rfl, hlo, hr⟩
  · refine ⟨none, 0, by rw [hl0]; rfl, .inl (by rw [hl0]; rfl), fun hR => ?_, hl⟩
    obtain ⟨g, c, e, _⟩ := hc hR
    cases e
  · refine ⟨some ⟨g, 0, none⟩, c, rfl, hr.2, fun hR => ?_, hl⟩
    obtain ⟨g', c', e, h1, h2⟩ := hc hR
    cases e
    exact ⟨g, rfl, h1, h2⟩

theorem by_bs {w : World} {b : Nat} {l : List UInt8} (h : up.By w b l) : sm.Bs w (some ⟨b, 0, none⟩) l.length (inL l) :=
  .inr ⟨b, 0, rfl, fun i hi => by rw [Nat.zero_add, h i hi]; simp [inL, hi]⟩
theorem strR_of {w : World} {g cv : Nat} {l : List ByteArray} (h : st.Ss w (some ⟨g, 0, none⟩) l.length l) (h1 : l.length ≤ cv) (h2 : cv ≤ maxLen) : sr.StrR w (.slice (some ⟨g, 0, none⟩) (toL l).length cv) (toL l) := by
  refine ⟨g, 0, cv, rfl, by rw [toL_len]; exact h1, h2, fun i x hx => ?_⟩
  have hi : i < l.length := by have := (List.getElem?_eq_some_iff.1 hx).1; rwa [toL_len] at this
  rcases h with h | ⟨b, o, e, hc⟩
  · omega
  · cases e
    rw [hc i hi]
    unfold toL at hx
    rw [List.getElem?_map, List.getElem?_eq_getElem hi] at hx
    simp at hx
    subst hx
    unfold st.atS
    rw [List.getElem?_eq_getElem hi]
    simp [sr.strL]
theorem srcS_own {base : Nat} {w : World} {v : Value} {xs : List (List UInt8)} (h : sr.OwnS base w v xs) : ∃ a c, v = .slice a (xs.map mt.BA).length c ∧ ty.SrcS none w a (xs.map mt.BA) := by
  obtain ⟨bb, o, c, e, _, _, hc⟩ := h.row
  refine ⟨some ⟨bb, o, none⟩, c, by rw [e, List.length_map], .inr ⟨bb, o, rfl, ty.Okb.free _ _, fun i x hx => ?_⟩⟩
  rw [List.getElem?_map] at hx
  obtain ⟨y, hy, rfl⟩ := Option.map_eq_some_iff.1 hx
  exact hc i y hy
theorem toL_small {l : List ByteArray} (h : ∀ i, i < l.length → (st.atS l i).size ≤ 1048576) : ∀ x ∈ toL l, x.length ≤ 1048576 := fun x hx => by
  obtain ⟨y, hy, rfl⟩ := List.mem_map.1 hx
  obtain ⟨i, hi⟩ := List.mem_iff_getElem?.1 hy
  have h1 := h i (List.getElem?_eq_some_iff.1 hi).1
  unfold st.atS at h1
  rw [hi] at h1
  have : y.data.toList.length = y.size := by simp
  simp only [Option.getD_some] at h1
  omega

theorem rfs_len (E : Nat → tt.En) (n : Nat) (xs : List (List UInt8)) : (rf.rfs E n xs).length ≤ xs.length := by
  unfold rf.rfs
  exact Nat.le_trans (List.length_filter_le _ _) (sr.adr_len xs)

set_option maxHeartbeats 8000000 in
set_option maxRecDepth 100000 in
theorem iop_any (mi s path : ByteArray) (bb : Nat) (l : List UInt8) (ks : List ty.Tr) (a : Option Addr) (cap : Nat) (w : World) (hs : s.size ≤ 1048576) (hl : l.length ≤ 1048576) (hB : up.By w bb l) (hbb : bb < w.heap.size) (hR : ty.SrcTr none w a ks) (hkn : ks.length ≤ 1048576) (hks : ∀ x ∈ ks, ty.U64 x.fN ∧ ty.U64 x.fE) (hT : wd.TabB w) (hP : mt.PwT w) (hE : mt.EC w) (hML : mt.ML w) (hm : tt.ML w) :
    Calls Tryz.prog 23 #[.agg #[.string mi, .string s, .slice (some ⟨bb, 0, none⟩) l.length l.length], .string path, .slice a ks.length cap] w fun e w' => (∃ a1 n1 c1 a2 n2 c2, e = .returned (.agg #[.int .i64 (acV s path ks l), .slice a1 n1 c1, .slice a2 n2 c2])) ∧ Below w.heap.size w w' := by
  obtain ⟨N, hN⟩ : ∃ N, l.length = N := ⟨_, rfl⟩
  have HN : Hid (l.length = N) := hN
  obtain ⟨W2, hW2⟩ : ∃ W2, W2 = (w.alloc (.cells #[.string mi, .string s, .slice (some ⟨bb, 0, none⟩) N N] 29)).alloc (.cells #[.int .i64 0, .slice none 0 0, .slice none 0 0] 58) := ⟨_, rfl⟩
  have HW2 : Hid (W2 = (w.alloc (.cells #[.string mi, .string s, .slice (some ⟨bb, 0, none⟩) N N] 29)).alloc (.cells #[.int .i64 0, .slice none 0 0, .slice none 0 0] 58)) := hW2
  have HS2 : Hid (W2.heap.size = w.heap.size + 2) := by show _ = _; rw [hW2]; simp
  have HB2 : Hid (Below w.heap.size w W2) := by show Below _ _ _; rw [hW2]; exact ((Below.refl _ _).alloc (Nat.le_refl _) _).alloc (by simp) _
  have HBX : Hid (∀ W, Below W2.heap.size W2 W → W.cell? ⟨w.heap.size, 2, none⟩ = some (.slice (some ⟨bb, 0, none⟩) N N)) := fun W h => by
    rw [(bcell h).1 w.heap.size 2 (by rw [HS2.out]; omega), hW2]
    simp [go_sem]
  have HZX : Hid (∀ W, Below W2.heap.size W2 W → W.cell? ⟨w.heap.size + 1, 0, none⟩ = some (.int .i64 0) ∧ W.cell? ⟨w.heap.size + 1, 1, none⟩ = some (.slice none 0 0) ∧ W.cell? ⟨w.heap.size + 1, 2, none⟩ = some (.slice none 0 0)) := fun W h => by
    have q := (bcell h).1 (w.heap.size + 1)
    rw [q 0 (by rw [HS2.out]; omega), q 1 (by rw [HS2.out]; omega), q 2 (by rw [HS2.out]; omega), hW2]
    exact ⟨by simp [go_sem], by simp [go_sem], by simp [go_sem]⟩
  have HFX : Hid (∀ W, Below W2.heap.size W2 W → ∀ j, W.frozen? ⟨w.heap.size + 1, j, none⟩ = false) := fun W h j => by
    rw [(bcell h).2 (w.heap.size + 1) j (by rw [HS2.out]; omega), hW2]
    simp [go_sem]
  have HBW : Hid (∀ W, Below W2.heap.size W2 W → Below w.heap.size w W) := fun W h => HB2.out.trans (h.mono HB2.out.size)
  obtain ⟨M, hM⟩ : ∃ M, mt.rdM s.data.toList = M := ⟨_, rfl⟩
  obtain ⟨R, hRR⟩ : ∃ R, mt.rdB s.data.toList = R := ⟨_, rfl⟩
  have HRM : Hid (Calls Tryz.prog 41 #[.string s] W2 fun e w' => RdS M R W2 w' e) := by
    rw [← hM, ← hRR]
    exact (mt.iread_any s hs W2 (hE.below HB2.out) (hML.below HB2.out) (hT.below HB2.out) (hP.below HB2.out)).mono fun e w' h => rds_of h
  have HVN : Hid (R = false → acV s path ks l = 1) := fun h => acV_no (hRR.trans h)
  have HVY : Hid (R = true → acV s path ks l = acM M path ks l) := fun h => by rw [acV_yes (hRR.trans h), hM]
  have HMO : Hid (R = true → MOk M) := fun h => by rw [← hM]; exact mok_of (hRR.trans h)
  have HTR : Hid (R = true → ∀ (W : World) av cv, Below W2.heap.size W2 W → st.Ss W av M.l.length M.l → Calls Tryz.prog 42 #[.agg #[.string M.path, .string M.sum, .int .i64 M.z, .slice av M.l.length cv, .string M.key, .int .u64 (M.sig : Int)], .slice a ks.length cap] W fun e w' => e = .returned (.bool (trB M.key (sV (hdL M)) M.sig ks)) ∧ Below W.heap.size W w') := fun h W av cv hb hss =>
    have o := HMO.out h
    itr_any M.path M.sum M.key M.z M.sig M.l av M.l.length cv ks a cap W hss o.few o.refs o.path o.sum o.key o.hok o.name o.sig (hT.below (HBW.out W hb)) (hP.below (HBW.out W hb)) (hR.below (HBW.out W hb)) hkn hks
  have HBY : Hid (∀ W, Below W2.heap.size W2 W → up.By W bb l) := fun W hb => hB.below (HBW.out W hb)
  have HSU : Hid (∀ W, Below W2.heap.size W2 W → Calls Tryz.prog 44 #[.slice (some ⟨bb, 0, none⟩) N N] W fun e w' => e = .returned (.int .u64 ((sV l : Nat) : Int)) ∧ w' = W) := fun W hb => by
    rw [← hN]
    exact sg.isum_any _ l.length l.length (inL l) W (by_bs (HBY.out W hb)) (by omega)
  have HWD : Hid (∀ W, Below W2.heap.size W2 W → Calls Tryz.prog 43 #[.int .u64 ((sV l : Nat) : Int)] W fun e w' => e = .returned (.string (wd.wordA (sV l))) ∧ Below W.heap.size W w') := fun W hb => wd.impl_any (sV l) (sV_lt l) W (sg.tab_block (hT.below (HBW.out W hb)))
  have HUN : Hid (∀ W, Below W2.heap.size W2 W → Calls Tryz.prog 45 #[.slice (some ⟨bb, 0, none⟩) N N] W fun e w' => up.UnR W w' l e ∧ Below W.heap.size W w') := fun W hb => up.iunp_any tt.at_any bb N l hN.symm hl W (HBY.out W hb) (by have := hb.size; have := HS2.out; omega) (hm.below (HBW.out W hb))
  have HRF : Hid (R = true → ∀ (W : World) (E : Nat → tt.En) (b n cp g cv : Nat), Below W2.heap.size W2 W → tt.EnR W b 0 n E → tt.SmE n E → n ≤ 500 → tt.treeB E n = true → st.Ss W (some ⟨g, 0, none⟩) M.l.length M.l → M.l.length ≤ cv → cv ≤ maxLen → Calls Tryz.prog 47 #[.slice (some ⟨b, 0, none⟩) n cp, .slice (some ⟨g, 0, none⟩) M.l.length cv] W fun e w' => (∃ a2 c2, e = .returned (.slice a2 ((rf.rfs E n (toL M.l)).map mt.BA).length c2) ∧ ty.SrcS none w' a2 ((rf.rfs E n (toL M.l)).map mt.BA)) ∧ Below W.heap.size W w') := fun h W E b n cp g cv hb hen hsm hn5 htr hss h1 h2 => by
    have o := HMO.out h
    have hq := rf.irefs_any E b n cp (toL M.l) (toL_small o.refs) (some ⟨g, 0, none⟩) cv W hen hsm (by omega) (hm.below (HBW.out W hb)) (tt.at_any E) (strR_of hss h1 h2) (by rw [toL_len]; have := o.few; omega) (hT.below (HBW.out W hb))
    rw [toL_len] at hq
    refine hq.mono ?_
    rintro e w' ⟨⟨v, rfl, hv⟩, hl'⟩
    have hA : rf.rfA E n (toL M.l) = rf.rfs E n (toL M.l) := by unfold rf.rfA; rw [if_pos ⟨htr, by rw [toL_len]; have := o.few; omega⟩]
    rw [hA] at hv
    obtain ⟨a2, c2, e2, hs2⟩ := srcS_own hv
    exact ⟨⟨a2, c2, by rw [e2], hs2⟩, hl'⟩
  have HEQ : Hid (∀ (W : World) (L : List ByteArray) a2 c2 (g cv : Nat), ty.SrcS none W a2 L → L.length ≤ 1048576 → st.Ss W (some ⟨g, 0, none⟩) M.l.length M.l → M.l.length ≤ cv → cv ≤ maxLen → Calls Tryz.prog 46 #[.slice a2 L.length c2, .slice (some ⟨g, 0, none⟩) M.l.length cv] W fun e w' => e = .returned (.bool (so.eqT L (toL M.l))) ∧ Below W.heap.size W w') := fun W L a2 c2 g cv h1 h2 h3 h4 h5 => by
    have := so.equal_any a2 c2 L (toL M.l) (.slice (some ⟨g, 0, none⟩) (toL M.l).length cv) W h1 h2 (strR_of h3 h4 h5)
    rw [toL_len] at this
    exact this
  rw [hN]
  rw [hW2] at HRM
  obtain ⟨K, hK⟩ : ∃ K, ks.length = K := ⟨_, rfl⟩
  rw [hK] at HTR ⊢
  obtain ⟨V, hV⟩ : ∃ V, acV s path ks l = V := ⟨_, rfl⟩
  rw [hV] at HVN HVY ⊢
  obtain ⟨mp, hmp⟩ : ∃ x, M.path = x := ⟨_, rfl⟩
  obtain ⟨ms, hms⟩ : ∃ x, M.sum = x := ⟨_, rfl⟩
  obtain ⟨mz, hmz⟩ : ∃ x, M.z = x := ⟨_, rfl⟩
  obtain ⟨mk, hmk⟩ : ∃ x, M.key = x := ⟨_, rfl⟩
  obtain ⟨mg, hmg⟩ : ∃ x, M.sig = x := ⟨_, rfl⟩
  obtain ⟨nl, hnl⟩ : ∃ x, M.l.length = x := ⟨_, rfl⟩
  have HX : Hid (M.path = mp ∧ M.sum = ms ∧ M.z = mz ∧ M.l.length = nl) := ⟨hmp, hms, hmz, hnl⟩
  obtain ⟨tb, htb⟩ : ∃ x, trB M.key (sV (hdL M)) M.sig ks = x := ⟨_, rfl⟩
  have HTB : Hid (trB M.key (sV (hdL M)) M.sig ks = tb) := htb
  rw [htb] at HTR
  obtain ⟨wa, hwa⟩ : ∃ x, wd.wordA (sV l) = x := ⟨_, rfl⟩
  have HWA : Hid (wd.wordA (sV l) = wa) := hwa
  rw [hwa] at HWD
  obtain ⟨sv, hsv⟩ : ∃ x, sV l = x := ⟨_, rfl⟩
  rw [hsv] at HWD HSU
  have HRM2 : Hid (Calls Tryz.prog 41 #[.string s] ((w.alloc (.cells #[.string mi, .string s, .slice (some ⟨bb, 0, none⟩) N N] 29)).alloc (.cells #[.int .i64 0, .slice none 0 0, .slice none 0 0] 58)) fun e w' => ∃ av cv, e = .returned (.tuple #[.agg #[.string mp, .string ms, .int .i64 mz, .slice av nl cv, .string mk, .int .u64 (mg : Int)], .bool R]) ∧ (st.Ss w' av M.l.length M.l ∧ (R = true → ∃ g, av = some ⟨g, 0, none⟩ ∧ M.l.length ≤ cv ∧ cv ≤ maxLen)) ∧ Below W2.heap.size W2 w') := HRM.out.mono fun e w' ⟨av, cv, he, h1, h2, h3⟩ => ⟨av, cv, by rw [he, hmp, hms, hmz, hmk, hmg, hnl], ⟨h1, h2⟩, by rw [← hW2] at h3; exact h3⟩
  rw [hmp, hms, hmz, hmk, hmg, hnl] at HTR
  rw [hnl] at HRF HEQ
  clear hs hB hbb hR hkn hks hT hP hE hML hm HRM hM hRR hN hK hV hW2 hmp hms hmz hmk hmg hnl htb hwa hsv
  go_enter Tryz.func23, Tryz.ntmps23
  go_wp2_with (first | (go_at_call 41; refine HRM2.out.mono ?_; rintro e w3 ⟨av, cv, rfl, hrow, hl3⟩; have HROW := Lib.hid hrow; have HL3 := Lib.hid hl3; clear hrow hl3; refine Hid.out ?_) | go_in)
  refine Lib.hid ?_
  obtain ⟨W4, hW4⟩ : ∃ W4, W4 = w3.alloc (.cells #[.string mp, .string ms, .int .i64 mz, .slice av nl cv, .string mk, .int .u64 (mg : Int)] 43) := ⟨_, rfl⟩
  have HW4 : Hid (W4 = w3.alloc (.cells #[.string mp, .string ms, .int .i64 mz, .slice av nl cv, .string mk, .int .u64 (mg : Int)] 43)) := hW4
  have HB34 : Hid (Below w3.heap.size w3 W4) := by show Below _ _ _; rw [hW4]; exact (Below.refl _ _).alloc (Nat.le_refl _) _
  have HS4 : Hid (W4.heap.size = w3.heap.size + 1) := by show _ = _; rw [hW4]; simp
  have HL4 : Hid (∀ W, Below W4.heap.size W4 W → Below W2.heap.size W2 W) := fun W h => (HL3.out.trans (HB34.out.mono HL3.out.size)).trans (h.mono (HL3.out.trans (HB34.out.mono HL3.out.size)).size)
  have HMX : Hid (∀ W, Below W4.heap.size W4 W → W.cell? ⟨w3.heap.size, 1, none⟩ = some (.string ms) ∧ W.cell? ⟨w3.heap.size, 2, none⟩ = some (.int .i64 mz) ∧ W.cell? ⟨w3.heap.size, 3, none⟩ = some (.slice av nl cv)) := fun W h => by
    have q := (bcell h).1 w3.heap.size
    rw [q 1 (by rw [HS4.out]; omega), q 2 (by rw [HS4.out]; omega), q 3 (by rw [HS4.out]; omega), hW4]
    exact ⟨by simp [go_sem], by simp [go_sem], by simp [go_sem]⟩
  have HSS : Hid (∀ W, Below W4.heap.size W4 W → st.Ss W av M.l.length M.l) := fun W h => (HROW.out.1.below HB34.out).below h
  have HZ4 : Hid (∀ W, Below W4.heap.size W4 W → ∀ c v1 v2, (((W.setCell ⟨w.heap.size + 1, 0, none⟩ c).setCell ⟨w.heap.size + 1, 1, none⟩ v1).setCell ⟨w.heap.size + 1, 2, none⟩ v2).cell? ⟨w.heap.size + 1, 0, none⟩ = some c ∧ (((W.setCell ⟨w.heap.size + 1, 0, none⟩ c).setCell ⟨w.heap.size + 1, 1, none⟩ v1).setCell ⟨w.heap.size + 1, 2, none⟩ v2).cell? ⟨w.heap.size + 1, 1, none⟩ = some v1 ∧ (((W.setCell ⟨w.heap.size + 1, 0, none⟩ c).setCell ⟨w.heap.size + 1, 1, none⟩ v1).setCell ⟨w.heap.size + 1, 2, none⟩ v2).cell? ⟨w.heap.size + 1, 2, none⟩ = some v2) := fun W h c v1 v2 => three c v1 v2 (HZX.out _ (HL4.out W h))
  have HE4 : Hid (∀ W, Below W4.heap.size W4 W → ∀ c v1 v2, Below w.heap.size w (((W.setCell ⟨w.heap.size + 1, 0, none⟩ c).setCell ⟨w.heap.size + 1, 1, none⟩ v1).setCell ⟨w.heap.size + 1, 2, none⟩ v2)) := fun W h c v1 v2 => three_bel (HBW.out _ (HL4.out W h)) (by omega)
  have f0 := HFX.out _ (HL4.out W4 (Below.refl _ _)) 0
  have f1 := HFX.out _ (HL4.out W4 (Below.refl _ _)) 1
  have f2 := HFX.out _ (HL4.out W4 (Below.refl _ _)) 2
  obtain ⟨z0, z1, z2⟩ := HZX.out _ (HL4.out W4 (Below.refl _ _))
  cases R with
  | false =>
    obtain rfl := HVN.out rfl
    rw [hW4] at f0 f1 f2 z0 z1 z2
    clear hW4
    go_wp2
    refine ret_open Tryz.results23 rfl (by rw [← HW4.out]; exact HZ4.out _ (Below.refl _ _) _ _ _) ⟨⟨_, _, _, _, _, _, rfl⟩, by rw [← HW4.out]; exact HE4.out _ (Below.refl _ _) _ _ _⟩
  | true =>
    have o := HMO.out rfl
    have HMK : Hid (MOk M) := o
    have HRG := Lib.hid (HRF.out rfl)
    have hVM : V = acM M path ks l := HVY.out rfl
    obtain ⟨g, hav, hc1, hc2⟩ := HROW.out.2 rfl
    subst hav
    have HC1 : Hid (M.l.length ≤ cv) := hc1
    have HC2 : Hid (cv ≤ maxLen) := hc2
    have HZZ : Hid (M.z = mz) := HX.out.2.2.1
    clear hc1 hc2
    by_cases hpp : mp = path
    rotate_left
    · obtain rfl : V = 2 := hVM.trans (acM_2 (by rw [HX.out.1]; exact hpp))
      have hq := ba_ne hpp
      rw [hW4] at f0 f1 f2 z0 z1 z2
      clear hW4 hpp hVM o
      go_wp2
      refine ret_open Tryz.results23 rfl (by rw [← HW4.out]; exact HZ4.out _ (Below.refl _ _) _ _ _) ⟨⟨_, _, _, _, _, _, rfl⟩, by rw [← HW4.out]; exact HE4.out _ (Below.refl _ _) _ _ _⟩
    have hq := ba_eq hpp
    have HPP : Hid (M.path = path) := HX.out.1.trans hpp
    have HTR2 : Hid (Calls Tryz.prog 42 #[.agg #[.string mp, .string ms, .int .i64 mz, .slice (some ⟨g, 0, none⟩) nl cv, .string mk, .int .u64 (mg : Int)], .slice a K cap] W4 fun e w' => e = .returned (.bool tb) ∧ Below W4.heap.size W4 w') := HTR.out rfl W4 _ cv (HL4.out _ (Below.refl _ _)) (by rw [← HX.out.2.2.2]; exact HSS.out _ (Below.refl _ _))
    rw [hW4] at HTR2
    clear f0 f1 f2 z0 z1 z2 hpp HTR
    have HVM : Hid (V = acM M path ks l) := hVM
    clear hVM o
    go_wp2_with (first | (go_at_call 42; refine HTR2.out.mono ?_; rintro e w5 ⟨rfl, hl5⟩; rw [← hW4] at hl5; have HL5 := Lib.hid hl5; clear hl5; refine Hid.out ?_) | go_in)
    refine Lib.hid ?_
    clear hW4 HTR2
    obtain ⟨q1, q2, q3⟩ := HMX.out _ HL5.out
    have qb := HBX.out _ (HL4.out _ HL5.out)
    obtain ⟨z0, z1, z2⟩ := HZX.out _ (HL4.out _ HL5.out)
    have f0 := HFX.out _ (HL4.out _ HL5.out) 0
    have f1 := HFX.out _ (HL4.out _ HL5.out) 1
    have f2 := HFX.out _ (HL4.out _ HL5.out) 2
    cases tb with
    | false =>
      obtain rfl : V = 3 := HVM.out.trans (acM_3 HPP.out HTB.out)
      go_wp2
      refine ret_open Tryz.results23 rfl (HZ4.out _ HL5.out _ _ _) ⟨⟨_, _, _, _, _, _, rfl⟩, HE4.out _ HL5.out _ _ _⟩
    | true =>
      by_cases hzz : (N : Int) = mz
      rotate_left
      · obtain rfl : V = 4 := HVM.out.trans (acM_4 HPP.out HTB.out (by rw [HZZ.out, HN.out]; exact hzz))
        have hzb : ((N : Int) != mz) = true := by simpa using hzz
        go_wp2
        refine ret_open Tryz.results23 rfl (HZ4.out _ HL5.out _ _ _) ⟨⟨_, _, _, _, _, _, rfl⟩, HE4.out _ HL5.out _ _ _⟩
      have hzb : ((N : Int) != mz) = false := by simpa using hzz
      have HZE : Hid ((l.length : Int) = M.z) := by show _ = _; rw [HZZ.out, HN.out]; exact hzz
      clear hzz
      by_cases hss : ms = wa
      rotate_left
      · obtain rfl : V = 5 := HVM.out.trans (acM_5 HPP.out HTB.out HZE.out (by rw [HX.out.2.1, HWA.out]; exact hss))
        have hsq := ba_ne hss
        clear hss
        go_wp2_with fail
        clear q1 q2 q3 qb z0 z1 z2 f0 f1 f2
        have HL5d : Hid (Below W4.heap.size W4 w5.drew) := HL5.out.drew
        refine wq 8 (S := (fun W => W.cell? ⟨w3.heap.size, 1, none⟩ = some (.string ms) ∧ W.cell? ⟨w.heap.size, 2, none⟩ = some (.slice (some ⟨bb, 0, none⟩) N N))) (by kernel_rfl) ⟨(HMX.out _ HL5d.out).1, HBX.out _ (HL4.out _ HL5d.out)⟩ fun hHeld => ?_
        refine uq (i := 0) rfl ?_
        try simp only [aP]
        refine uq (i := 1) rfl ?_
        try simp only [aP]
        refine uq (i := 2) rfl ?_
        try simp only [aP]
        refine uq (i := 3) rfl ?_
        try simp only [aP]
        refine rq 4 rfl fun K hK => ?_
        go_simp
        go_at_call 44
        refine (HSU.out _ (HL4.out _ HL5d.out)).mono ?_
        rintro e w6 ⟨rfl, hw6⟩
        obtain rfl := hw6.symm
        clear hw6
        try go_wp2_with fail
        refine hK.out _ _ (⟨(HMX.out _ HL5d.out).1, HBX.out _ (HL4.out _ HL5d.out)⟩) (fun hHeld => ?_)
        clear hK K
        try simp only [aP]
        refine rq 5 rfl fun K hK => ?_
        go_simp
        go_at_call 43
        refine (HWD.out _ (HL4.out _ HL5d.out)).mono ?_
        rintro e w7 ⟨rfl, hl7⟩
        have HL7 := Lib.hid (HL5d.out.trans (hl7.mono HL5d.out.size))
        clear hl7
        try go_wp2_with fail
        refine hK.out _ _ (⟨(HMX.out _ HL7.out).1, HBX.out _ (HL4.out _ HL7.out)⟩) (fun hHeld => ?_)
        clear hK K
        try simp only [aP]
        refine uq (i := 6) rfl ?_
        try simp only [aP]
        refine uq (i := 7) rfl ?_
        try simp only [aP]
        refine dq ?_
        obtain ⟨q1, q2, q3⟩ := HMX.out _ HL7.out
        have qb := HBX.out _ (HL4.out _ HL7.out)
        obtain ⟨z0, z1, z2⟩ := HZX.out _ (HL4.out _ HL7.out)
        have f0 := HFX.out _ (HL4.out _ HL7.out) 0
        have f1 := HFX.out _ (HL4.out _ HL7.out) 1
        have f2 := HFX.out _ (HL4.out _ HL7.out) 2
        go_wp2
        refine ret_open Tryz.results23 rfl (HZ4.out _ HL7.out _ _ _) ⟨⟨_, _, _, _, _, _, rfl⟩, HE4.out _ HL7.out _ _ _⟩
      have hsq := ba_eq hss
      have HSE : Hid (M.sum = wd.wordA (sV l)) := by show _ = _; rw [HX.out.2.1, HWA.out]; exact hss
      clear hss
      go_wp2_with fail
      clear q1 q2 q3 qb z0 z1 z2 f0 f1 f2
      have HL5d : Hid (Below W4.heap.size W4 w5.drew) := HL5.out.drew
      refine wq 8 (S := (fun W => W.cell? ⟨w3.heap.size, 1, none⟩ = some (.string ms) ∧ W.cell? ⟨w.heap.size, 2, none⟩ = some (.slice (some ⟨bb, 0, none⟩) N N))) (by kernel_rfl) ⟨(HMX.out _ HL5d.out).1, HBX.out _ (HL4.out _ HL5d.out)⟩ fun hHeld => ?_
      refine uq (i := 0) rfl ?_
      try simp only [aP]
      refine uq (i := 1) rfl ?_
      try simp only [aP]
      refine uq (i := 2) rfl ?_
      try simp only [aP]
      refine uq (i := 3) rfl ?_
      try simp only [aP]
      refine rq 4 rfl fun K hK => ?_
      go_simp
      go_at_call 44
      refine (HSU.out _ (HL4.out _ HL5d.out)).mono ?_
      rintro e w6 ⟨rfl, hw6⟩
      obtain rfl := hw6.symm
      clear hw6
      try go_wp2_with fail
      refine hK.out _ _ (⟨(HMX.out _ HL5d.out).1, HBX.out _ (HL4.out _ HL5d.out)⟩) (fun hHeld => ?_)
      clear hK K
      try simp only [aP]
      refine rq 5 rfl fun K hK => ?_
      go_simp
      go_at_call 43
      refine (HWD.out _ (HL4.out _ HL5d.out)).mono ?_
      rintro e w7 ⟨rfl, hl7⟩
      have HL7 := Lib.hid (HL5d.out.trans (hl7.mono HL5d.out.size))
      clear hl7
      try go_wp2_with fail
      refine hK.out _ _ (⟨(HMX.out _ HL7.out).1, HBX.out _ (HL4.out _ HL7.out)⟩) (fun hHeld => ?_)
      clear hK K
      try simp only [aP]
      refine uq (i := 6) rfl ?_
      try simp only [aP]
      refine uq (i := 7) rfl ?_
      try simp only [aP]
      refine dq ?_
      obtain ⟨q1, q2, q3⟩ := HMX.out _ HL7.out
      have qb := HBX.out _ (HL4.out _ HL7.out)
      obtain ⟨z0, z1, z2⟩ := HZX.out _ (HL4.out _ HL7.out)
      have f0 := HFX.out _ (HL4.out _ HL7.out) 0
      have f1 := HFX.out _ (HL4.out _ HL7.out) 1
      have f2 := HFX.out _ (HL4.out _ HL7.out) 2
      go_wp2_with (go_at_call 45; refine (HUN.out _ (HL4.out _ HL7.out)).mono ?_; rintro e w8 ⟨⟨v8, ok, n8, X, rfl, hrow8, hn5, hcase⟩, hl8⟩; obtain ⟨ge, cpe, fe, rfl, _, _, _, _, hen⟩ := hrow8; have HL8 := Lib.hid (HL7.out.trans (hl8.mono HL7.out.size)); have HEN := Lib.hid hen; have HCA := Lib.hid hcase; clear hl8 hen hcase; refine Hid.out ?_)
      refine Lib.hid ?_
      clear q1 q2 q3 qb z0 z1 z2 f0 f1 f2
      obtain ⟨q1, q2, q3⟩ := HMX.out _ HL8.out
      have qb := HBX.out _ (HL4.out _ HL8.out)
      obtain ⟨z0, z1, z2⟩ := HZX.out _ (HL4.out _ HL8.out)
      have f0 := HFX.out _ (HL4.out _ HL8.out) 0
      have f1 := HFX.out _ (HL4.out _ HL8.out) 1
      have f2 := HFX.out _ (HL4.out _ HL8.out) 2
      rcases HCA.out with ⟨rfl, hgd, hun⟩ | ⟨rfl, rfl, hno⟩
      rotate_left
      · obtain rfl : V = 6 := HVM.out.trans (acM_6 HPP.out HTB.out HZE.out HSE.out (gT_no hno))
        clear hno HCA
        go_wp2
        refine ret_open Tryz.results23 rfl (HZ4.out _ HL8.out _ _ _) ⟨⟨_, _, _, _, _, _, rfl⟩, HE4.out _ HL8.out _ _ _⟩
      have HGT : Hid (gT l = true) := gT_yes hgd
      have HGR : Hid (gR l (toL M.l) = eqR X n8 (toL M.l)) := gR_is _ hgd hun
      have HTRE : Hid (tt.treeB X n8 = true) := hgd.1
      have HSME : Hid (tt.SmE n8 X) := hgd.2.1
      have HRL : Hid (((rf.rfs X n8 (toL M.l)).map mt.BA).length ≤ 1048576) := by
        show _ ≤ _
        rw [List.length_map]
        have h1 : (rf.rfs X n8 (toL M.l)).length ≤ (toL M.l).length := rfs_len _ _ _
        rw [toL_len] at h1
        have := HMK.out.few
        omega
      obtain ⟨q, hqq⟩ : ∃ q, so.eqT ((rf.rfs X n8 (toL M.l)).map mt.BA) (toL M.l) = q := ⟨_, rfl⟩
      have HQQ : Hid (eqR X n8 (toL M.l) = q) := hqq
      have HEQ2 : Hid (∀ (W : World) a2 c2 (g cv : Nat), ty.SrcS none W a2 ((rf.rfs X n8 (toL M.l)).map mt.BA) → st.Ss W (some ⟨g, 0, none⟩) M.l.length M.l → M.l.length ≤ cv → cv ≤ maxLen → Calls Tryz.prog 46 #[.slice a2 ((rf.rfs X n8 (toL M.l)).map mt.BA).length c2, .slice (some ⟨g, 0, none⟩) nl cv] W fun e w' => e = .returned (.bool q) ∧ Below W.heap.size W w') := fun W a2 c2 g cv h1 h2 h3 h4 => by rw [← hqq]; exact HEQ.out W _ a2 c2 g cv h1 HRL.out (by rw [← HX.out.2.2.2]; exact h2) (by rw [← HX.out.2.2.2]; exact h3) h4
      obtain ⟨LL, hLL⟩ : ∃ x, ((rf.rfs X n8 (toL M.l)).map mt.BA).length = x := ⟨_, rfl⟩
      have HRF2 : Hid (∀ (W : World) (b n cp g cv : Nat), Below W2.heap.size W2 W → tt.EnR W b 0 n8 X → st.Ss W (some ⟨g, 0, none⟩) M.l.length M.l → M.l.length ≤ cv → cv ≤ maxLen → Calls Tryz.prog 47 #[.slice (some ⟨b, 0, none⟩) n8 cp, .slice (some ⟨g, 0, none⟩) nl cv] W fun e w' => (∃ a2 c2, e = .returned (.slice a2 LL c2) ∧ ty.SrcS none w' a2 ((rf.rfs X n8 (toL M.l)).map mt.BA)) ∧ Below W.heap.size W w') := fun W b n cp g cv h1 h2 h3 h4 h5 => by rw [← hLL]; exact HRG.out W X b n8 cp g cv h1 h2 HSME.out (by omega) HTRE.out (by rw [← HX.out.2.2.2]; exact h3) (by rw [← HX.out.2.2.2]; exact h4) h5
      rw [hLL] at HEQ2
      clear hgd hun HCA hqq HRF HRG HEQ hLL
      cases q with
      | false =>
        obtain rfl : V = 7 := HVM.out.trans (acM_7 HPP.out HTB.out HZE.out HSE.out HGT.out (HGR.out.trans HQQ.out))
        go_wp2_with fail
        clear q1 q2 q3 qb z0 z1 z2 f0 f1 f2
        have HL8d : Hid (Below W4.heap.size W4 w8.drew) := HL8.out.drew
        have HB8d : Hid (Below w8.heap.size w8 w8.drew) := (Below.refl _ _).drew
        refine wq 9 (S := (fun W => W.cell? ⟨w3.heap.size, 3, none⟩ = some (.slice (some ⟨g, 0, none⟩) nl cv))) (by kernel_rfl) ((HMX.out _ HL8d.out).2.2) fun hHeld => ?_
        refine uq (i := 0) rfl ?_
        try simp only [aP]
        refine uq (i := 1) rfl ?_
        try simp only [aP]
        refine uq (i := 2) rfl ?_
        try simp only [aP]
        refine uq (i := 4) rfl ?_
        try simp only [aP]
        refine uq (i := 5) rfl ?_
        try simp only [aP]
        refine rq 3 rfl fun K hK => ?_
        go_simp
        go_at_call 47
        refine (HRF2.out _ _ n8 _ _ _ (HL4.out _ HL8d.out) (HEN.out.below HB8d.out) (HSS.out _ HL8d.out) HC1.out HC2.out).mono ?_
        rintro e w9 ⟨⟨a2, c2, rfl, hs9⟩, hl9⟩
        have HL9 := Lib.hid (HL8d.out.trans (hl9.mono HL8d.out.size))
        have HS9 := Lib.hid hs9
        clear hs9 hl9
        try go_wp2_with fail
        refine hK.out _ _ ((HMX.out _ HL9.out).2.2) (fun hHeld => ?_)
        clear hK K
        try simp only [aP]
        refine rq 6 rfl fun K hK => ?_
        go_simp
        go_at_call 46
        refine (HEQ2.out _ _ _ _ _ HS9.out (HSS.out _ HL9.out) HC1.out HC2.out).mono ?_
        rintro e w10 ⟨rfl, hl10⟩
        have HL10 := Lib.hid (HL9.out.trans (hl10.mono HL9.out.size))
        clear hl10
        try go_wp2_with fail
        refine hK.out _ _ ((HMX.out _ HL10.out).2.2) (fun hHeld => ?_)
        clear hK K
        try simp only [aP]
        refine uq (i := 7) rfl ?_
        try simp only [aP]
        refine uq (i := 8) rfl ?_
        try simp only [aP]
        refine dq ?_
        obtain ⟨q1, q2, q3⟩ := HMX.out _ HL10.out
        have qb := HBX.out _ (HL4.out _ HL10.out)
        obtain ⟨z0, z1, z2⟩ := HZX.out _ (HL4.out _ HL10.out)
        have f0 := HFX.out _ (HL4.out _ HL10.out) 0
        have f1 := HFX.out _ (HL4.out _ HL10.out) 1
        have f2 := HFX.out _ (HL4.out _ HL10.out) 2
        go_wp2
        refine ret_open Tryz.results23 rfl (HZ4.out _ HL10.out _ _ _) ⟨⟨_, _, _, _, _, _, rfl⟩, HE4.out _ HL10.out _ _ _⟩
      | true =>
        obtain rfl : V = 0 := HVM.out.trans (acM_0 HPP.out HTB.out HZE.out HSE.out HGT.out (HGR.out.trans HQQ.out))
        go_wp2_with fail
        clear q1 q2 q3 qb z0 z1 z2 f0 f1 f2
        have HL8d : Hid (Below W4.heap.size W4 w8.drew) := HL8.out.drew
        have HB8d : Hid (Below w8.heap.size w8 w8.drew) := (Below.refl _ _).drew
        refine wq 9 (S := (fun W => W.cell? ⟨w3.heap.size, 3, none⟩ = some (.slice (some ⟨g, 0, none⟩) nl cv))) (by kernel_rfl) ((HMX.out _ HL8d.out).2.2) fun hHeld => ?_
        refine uq (i := 0) rfl ?_
        try simp only [aP]
        refine uq (i := 1) rfl ?_
        try simp only [aP]
        refine uq (i := 2) rfl ?_
        try simp only [aP]
        refine uq (i := 4) rfl ?_
        try simp only [aP]
        refine uq (i := 5) rfl ?_
        try simp only [aP]
        refine rq 3 rfl fun K hK => ?_
        go_simp
        go_at_call 47
        refine (HRF2.out _ _ n8 _ _ _ (HL4.out _ HL8d.out) (HEN.out.below HB8d.out) (HSS.out _ HL8d.out) HC1.out HC2.out).mono ?_
        rintro e w9 ⟨⟨a2, c2, rfl, hs9⟩, hl9⟩
        have HL9 := Lib.hid (HL8d.out.trans (hl9.mono HL8d.out.size))
        have HS9 := Lib.hid hs9
        clear hs9 hl9
        try go_wp2_with fail
        refine hK.out _ _ ((HMX.out _ HL9.out).2.2) (fun hHeld => ?_)
        clear hK K
        try simp only [aP]
        refine rq 6 rfl fun K hK => ?_
        go_simp
        go_at_call 46
        refine (HEQ2.out _ _ _ _ _ HS9.out (HSS.out _ HL9.out) HC1.out HC2.out).mono ?_
        rintro e w10 ⟨rfl, hl10⟩
        have HL10 := Lib.hid (HL9.out.trans (hl10.mono HL9.out.size))
        clear hl10
        try go_wp2_with fail
        refine hK.out _ _ ((HMX.out _ HL10.out).2.2) (fun hHeld => ?_)
        clear hK K
        try simp only [aP]
        refine uq (i := 7) rfl ?_
        try simp only [aP]
        refine uq (i := 8) rfl ?_
        try simp only [aP]
        refine dq ?_
        obtain ⟨q1, q2, q3⟩ := HMX.out _ HL10.out
        have qb := HBX.out _ (HL4.out _ HL10.out)
        obtain ⟨z0, z1, z2⟩ := HZX.out _ (HL4.out _ HL10.out)
        have f0 := HFX.out _ (HL4.out _ HL10.out) 0
        have f1 := HFX.out _ (HL4.out _ HL10.out) 1
        have f2 := HFX.out _ (HL4.out _ HL10.out) 2
        go_wp2
        refine ret_open Tryz.results23 rfl (HZ4.out _ HL10.out _ _ _) ⟨⟨_, _, _, _, _, _, rfl⟩, HE4.out _ HL10.out _ _ _⟩

end Go.Proofs.YtkmhaemcpakobaaGreatDoor.ac

namespace Go.Proofs.YtkmhaemcpakobaaGreatDoor.up
open Go.ChangeShapes Go.WideShapes Go.ChangeAt Go.RowKit Go.Deep
set_option linter.unusedVariables false
set_option linter.unusedSimpArgs false

/-! ### Bytes that are unpacked: the specification's reader -/

/-- The reader's three fields. -/
structure Sr (w : World) (p b N i : Nat) (bad : Bool) : Prop where
  c0 : w.cell? ⟨p, 0, none⟩ = some (.slice (some ⟨b, 0, none⟩) N N)
  c1 : w.cell? ⟨p, 1, none⟩ = some (.int .i64 (i : Int))
  c2 : w.cell? ⟨p, 2, none⟩ = some (.bool bad)
  fz : ∀ j, w.frozen? ⟨p, j, none⟩ = false
  le : i ≤ N

theorem Sr.setBad {w : World} {p b N i : Nat} {bad : Bool} (h : Sr w p b N i bad) : Sr (w.setCell ⟨p, 2, none⟩ (.bool true)) p b N i true :=
  ⟨by rw [World.cell?_setCell_other _ _ _ _ (fun e => by cases e)]; exact h.c0, by rw [World.cell?_setCell_other _ _ _ _ (fun e => by cases e)]; exact h.c1, World.cell?_setCell_same _ _ _ h.c2, fun j => by rw [← h.fz j]; simp [go_sem], h.le⟩
theorem Sr.setI {w : World} {p b N i j : Nat} {bad : Bool} (h : Sr w p b N i bad) (hj : j ≤ N) : Sr (w.setCell ⟨p, 1, none⟩ (.int .i64 (j : Int))) p b N j bad :=
  ⟨by rw [World.cell?_setCell_other _ _ _ _ (fun e => by cases e)]; exact h.c0, World.cell?_setCell_same _ _ _ h.c1, by rw [World.cell?_setCell_other _ _ _ _ (fun e => by cases e)]; exact h.c2, fun j => by rw [← h.fz j]; simp [go_sem], hj⟩

theorem and127N : ∀ n, n < 256 → bits BinOp.and IntKind.u8 ((n : Nat) : Int) 127 = ((n % 128 : Nat) : Int) := by decide +kernel
theorem and127 (y : UInt8) : bits BinOp.and IntKind.u8 (y.toNat : Int) 127 = ((y.toNat % 128 : Nat) : Int) := and127N _ y.toNat_lt
theorem sx_of {a sh v : Nat} (h : sh = 0 ∨ sh = 7 ∨ sh = 14 ∨ sh = 21) (ha : a < 2 ^ sh) (y : UInt8) (hv : v = y.toNat % 128) : wrap64 ((a : Int) + wrap64 (wrap64 (bits BinOp.and IntKind.u8 (y.toNat : Int) 127) * 2 ^ sh)) = ((a + v * 2 ^ sh : Nat) : Int) ∧ a + v * 2 ^ sh < 2 ^ (sh + 7) := by
  rw [and127, ← hv]
  have hv2 : v < 128 := by omega
  rcases h with rfl | rfl | rfl | rfl
  all_goals
    simp only [wrap64, Nat.reducePow, Int.reducePow, Nat.reduceAdd] at ha ⊢
    constructor <;> omega
theorem Sr.drew {w : World} {p b N i : Nat} {bad : Bool} (h : Sr w p b N i bad) : Sr w.drew p b N i bad := ⟨h.c0, h.c1, h.c2, h.fz, h.le⟩
theorem grown_drew {w w' : World} {r : Option Nat} (h : w.grownBy w' r) : w.grownBy w'.drew r := ⟨h.os, h.tape, h.output, h.size, h.block⟩

/-- What a number leaves. -/
def SnR (w w' : World) (p b : Nat) (l : List UInt8) (i : Nat) (bad : Bool) (e : Ending) : Prop := ∃ (m i' : Nat) (bad' : Bool), e = .returned (.int .i64 (m : Int)) ∧ m < 268435456 ∧ i ≤ i' ∧ Sr w' p b l.length i' bad' ∧ (bad = true → bad' = true) ∧ w.grownBy w' (some p) ∧ ∀ x tail, l.drop i = bf.num x ++ tail → x ≤ 1048576 → m = x ∧ l.drop i' = tail ∧ bad' = bad

structure SnI (w wr : World) (p b : Nat) (l : List UInt8) (i : Nat) (bad : Bool) (a sh i' : Nat) : Prop where
  sh7 : sh = 0 ∨ sh = 7 ∨ sh = 14 ∨ sh = 21 ∨ sh = 28
  ab : a < 2 ^ sh
  le : i ≤ i'
  sr : Sr wr p b l.length i' bad
  gr : w.grownBy wr (some p)
  pr : ∀ x tail, l.drop i = bf.num x ++ tail → x ≤ 1048576 → ∃ y, l.drop i' = bf.num y ++ tail ∧ x = a + y * 2 ^ sh ∧ (sh = 0 ∨ 1 ≤ y)

set_option maxRecDepth 100000 in
set_option maxHeartbeats 2000000 in
theorem read_any (b p i : Nat) (bad : Bool) (l : List UInt8) (hbp : b ≠ p) (hN : l.length ≤ 1048576) (w : World) (h : Sr w p b l.length i bad) (hB : By w b l) :
    Calls Tryz.prog 33 #[.pointer (some ⟨p, 0, none⟩)] w fun e w' => SnR w w' p b l i bad e := by
  have HBY : Hid (∀ W, w.grownBy W (some p) → By W b l) := fun W hW => hB.grown hW hbp
  have HI0 : Hid (SnI w w p b l i bad 0 0 i) := ⟨.inl rfl, by simp, Nat.le_refl _, h, grown_refl _ _, fun x tail hx _ => ⟨x, hx, by simp, .inl rfl⟩⟩
  clear h hB
  go_enter Tryz.func33, Tryz.ntmps33
  go_wp2
  go_loopw [3, 4, 5] (fun v s _ wr => ∃ (a sh i' : Nat), v = .int .i64 (a : Int) ∧ s = .int .u64 (sh : Int) ∧ SnI w wr p b l i bad a sh i') (fun _ s _ _ => 28 - (intOf s).toNat)
  case atStart => exact ⟨0, 0, i, rfl, rfl, HI0.out⟩
  case round =>
    obtain ⟨a, sh, i', rfl, rfl, hI⟩ := hrel
    have HII : Hid (SnI w wr p b l i bad a sh i') := hI
    obtain ⟨c0, c1, c2, fz, hle⟩ := hI.sr
    have fz1 := fz 1
    have fz2 := fz 2
    have hsh := hI.sh7
    clear hI fz
    by_cases hs : sh < 28
    · have hs' : (sh : Int) < 28 := by omega
      obtain ⟨N, hNN⟩ : ∃ N, N = l.length := ⟨_, rfl⟩
      rw [← hNN] at c0
      have HNN : Hid (N = l.length) := hNN
      clear hNN
      by_cases hil : i' < N
      · have hil' : ¬ (N : Int) ≤ (i' : Int) := by omega
        have hil2 : ¬ N ≤ i' := by omega
        have hi0 : (0 : Int) ≤ (i' : Int) := by omega
        have hiN : (i' : Int) < (N : Int) := by omega
        have hil3 : i' < l.length := by rw [← HNN.out]; exact hil
        obtain ⟨y, hy⟩ : ∃ y, y = l[i'] := ⟨_, rfl⟩
        have hyc : wr.cell? ⟨b, i', none⟩ = some (.int .u8 (y.toNat : Int)) := by rw [hy]; exact HBY.out wr HII.out.gr i' hil3
        have HDR : Hid (l.drop i' = y :: l.drop (i' + 1)) := by show _ = _; rw [hy]; exact List.drop_eq_getElem_cons hil3
        have hyb : (y.toNat : Int) < 256 := by have := y.toNat_lt; omega
        clear hy
        go_wp2_with fail
        go_region_held3 (fun w' => w'.cell? ⟨p, 0, none⟩ = some (.slice (some ⟨b, 0, none⟩) N N) ∧ w'.cell? ⟨p, 1, none⟩ = some (.int .i64 (i' : Int))) (first | go_keep) (fail)
        go_wp2_with fail
        go_region_held3 (fun w' => w'.cell? ⟨p, 0, none⟩ = some (.slice (some ⟨b, 0, none⟩) N N) ∧ w'.cell? ⟨p, 1, none⟩ = some (.int .i64 (i' : Int)) ∧ w'.cell? ⟨b, i', none⟩ = some (.int .u8 (y.toNat : Int))) (first | go_keep) (fail)
        have h4 : sh = 0 ∨ sh = 7 ∨ sh = 14 ∨ sh = 21 := by omega
        have hsx := sx_of h4 HII.out.ab y rfl
        obtain ⟨A, hA⟩ : ∃ A, A = a + y.toNat % 128 * 2 ^ sh := ⟨_, rfl⟩
        rw [← hA] at hsx
        have HA : Hid (A = a + y.toNat % 128 * 2 ^ sh) := hA
        obtain ⟨hsx1, hsx2⟩ := hsx
        have HA2 : Hid (A < 2 ^ (sh + 7)) := hsx2
        have HSR : Hid (Sr (wr.setCell ⟨p, 1, none⟩ (.int .i64 ((i' : Int) + 1))).drew.drew p b l.length (i' + 1) bad) := by
          have := HII.out.sr.setI (j := i' + 1) (by omega)
          rw [show ((i' + 1 : Nat) : Int) = (i' : Int) + 1 by omega] at this
          exact this.drew.drew
        have HGR : Hid (w.grownBy (wr.setCell ⟨p, 1, none⟩ (.int .i64 ((i' : Int) + 1))).drew.drew (some p)) := grown_drew (grown_drew (grown_set HII.out.gr _ _))
        clear hA hsx2
        by_cases hlow : y.toNat < 128
        · have hlow' : (y.toNat : Int) < 128 := by omega
          have HR : Hid (SnR w (wr.setCell ⟨p, 1, none⟩ (.int .i64 ((i' : Int) + 1))).drew.drew p b l i bad (.returned (.int .i64 (A : Int)))) := by
            refine ⟨A, i' + 1, bad, rfl, ?_, by have := HII.out.le; omega, HSR.out, fun h => h, HGR.out, fun x tail hx hxb => ?_⟩
            · have h1 := HA2.out
              have h2 : 2 ^ (sh + 7) ≤ 2 ^ 28 := Nat.pow_le_pow_right (by omega) (by omega)
              have h3 : (2 : Nat) ^ 28 = 268435456 := rfl
              omega
            · obtain ⟨z, hz, hxe, _⟩ := HII.out.pr x tail hx hxb
              rw [HDR.out] at hz
              by_cases hz1 : z < 128
              · rw [bf.num_low hz1, List.singleton_append, List.cons.injEq] at hz
                have hyz : y.toNat = z := by rw [hz.1, UInt8.toNat_ofNat']; omega
                refine ⟨?_, hz.2, rfl⟩
                rw [HA.out, hyz, Nat.mod_eq_of_lt hz1, hxe]
              · rw [bf.num_high hz1, List.cons_append, List.cons.injEq] at hz
                have hyz : y.toNat = z % 128 + 128 := by rw [hz.1, UInt8.toNat_ofNat']; omega
                omega
          rw [← hsx1] at HR
          go_wp2_with fail
          go_ret
          exact HR.out
        · have hlow' : ¬ (y.toNat : Int) < 128 := by omega
          have HNI : Hid (SnI w (wr.setCell ⟨p, 1, none⟩ (.int .i64 ((i' : Int) + 1))).drew.drew p b l i bad A (sh + 7) (i' + 1)) := by
            refine ⟨by omega, HA2.out, by have := HII.out.le; omega, HSR.out, HGR.out, fun x tail hx hxb => ?_⟩
            obtain ⟨z, hz, hxe, _⟩ := HII.out.pr x tail hx hxb
            rw [HDR.out] at hz
            by_cases hz1 : z < 128
            · rw [bf.num_low hz1, List.singleton_append, List.cons.injEq] at hz
              have hyz : y.toNat = z := by rw [hz.1, UInt8.toNat_ofNat']; omega
              omega
            · rw [bf.num_high hz1, List.cons_append, List.cons.injEq] at hz
              have hyz : y.toNat = z % 128 + 128 := by rw [hz.1, UInt8.toNat_ofNat']; omega
              have hm : y.toNat % 128 = z % 128 := by omega
              have hsplit : z * 2 ^ sh = z % 128 * 2 ^ sh + z / 128 * (128 * 2 ^ sh) := by
                rw [← Nat.mul_assoc, ← Nat.add_mul]
                congr 1
                omega
              have hpow : 2 ^ (sh + 7) = 128 * 2 ^ sh := by rw [Nat.pow_add]; omega
              exact ⟨z / 128, hz.2, by rw [HA.out, hm, hpow]; omega, .inr (by omega)⟩
          go_wp2_with fail
          exact ⟨⟨A, sh + 7, i' + 1, by rw [hsx1], by go_num, HNI.out⟩, by simp [intOf]; omega⟩
      · have hil' : (N : Int) ≤ (i' : Int) := by omega
        have hil2 : N ≤ i' := by omega
        have HR : Hid (SnR w (wr.drew.setCell ⟨p, 2, none⟩ (.bool true)) p b l i bad (.returned (.int .i64 0))) := by
          have hsr : Sr wr.drew p b l.length i' bad := ⟨HII.out.sr.c0, HII.out.sr.c1, HII.out.sr.c2, HII.out.sr.fz, HII.out.sr.le⟩
          have hgr : w.grownBy wr.drew (some p) := ⟨HII.out.gr.os, HII.out.gr.tape, HII.out.gr.output, HII.out.gr.size, HII.out.gr.block⟩
          refine ⟨0, i', true, rfl, by omega, HII.out.le, hsr.setBad, fun _ => rfl, grown_set hgr _ _, fun x tail hx hxb => ?_⟩
          obtain ⟨z, hz, _, _⟩ := HII.out.pr x tail hx hxb
          rw [List.drop_eq_nil_of_le (by rw [← HNN.out]; exact hil2)] at hz
          exact absurd (List.append_eq_nil_iff.1 hz.symm).1 (num_ne z)
        go_wp2_with fail
        go_region_held3 (fun w' => w'.cell? ⟨p, 0, none⟩ = some (.slice (some ⟨b, 0, none⟩) N N) ∧ w'.cell? ⟨p, 1, none⟩ = some (.int .i64 (i' : Int))) (first | go_keep) (fail)
        go_wp2
        go_ret
        exact HR.out
    · have hs' : ¬ (sh : Int) < 28 := by omega
      have HR : Hid (SnR w (wr.setCell ⟨p, 2, none⟩ (.bool true)) p b l i bad (.returned (.int .i64 0))) := by
        refine ⟨0, i', true, rfl, by omega, HII.out.le, HII.out.sr.setBad, fun _ => rfl, grown_set HII.out.gr _ _, fun x tail hx hxb => ?_⟩
        obtain ⟨z, hz, hxe, hz1⟩ := HII.out.pr x tail hx hxb
        have h28 : sh = 28 := by omega
        subst h28
        exfalso
        have h5 : (2 : Nat) ^ 28 = 268435456 := rfl
        rw [h5] at hxe
        omega
      go_wp2
      go_ret
      exact HR.out

end Go.Proofs.YtkmhaemcpakobaaGreatDoor.up
