import Derived.Test.YtcpmgellfaeejaaGreatDoorG34
import Derived.Test.YtcpmgellfaeejaaGreatDoorG33
import Derived.Test.YtcpmgellfaeejaaGreatDoorG05
import Derived.Lib.LaidTab
namespace Go.Proofs.YtcpmgellfaeejaaGreatDoor.so
open Go.ChangeShapes Go.WideShapes Go.ChangeAt Go.RowKit Go.Deep Go.Shelf Go.Maps
set_option linter.unusedVariables false
set_option linter.unusedSimpArgs false
def AnS (lo : Nat) (w : World) (v : Value) (l : List ty.It) : Prop := ∃ g c, v = .slice (some ⟨g, 0, none⟩) l.length c ∧ ty.GIt lo w.heap.size w (some ⟨g, 0, none⟩) l
theorem AnS.mono {lo lo' : Nat} {w : World} {v : Value} {l : List ty.It} (h : AnS lo w v l) (hl : lo' ≤ lo) : AnS lo' w v l := by
 obtain ⟨g, c, e, h⟩ := h
 exact ⟨g, c, e, h.wide hl (Nat.le_refl _)⟩
theorem an_nil (W : World) : AnS W.heap.size (W.alloc (.cells #[] 42)) (.slice (some ⟨W.heap.size, 0, none⟩) 0 0) [] := by
 have hr := World.rowIs_alloc W #[] 42 (fun _ => undef) (fun i hi => by simp at hi)
 exact ⟨_, 0, rfl, W.heap.size, 0, _, _, _, fun _ => 0, fun _ => 0, rfl, Nat.le_refl _, hr.lt, hr, by simp, fun i x hx => by simp at hx, fun i j _ hj => by simp at hj⟩
theorem toB_path (l : List ty.It) : toB (l.map fun y => y.fPath) = pths l := by unfold toB pths; rw [List.map_map]; rfl
def stayL (l : List ty.It) (ys : List (List UInt8)) : List (List UInt8) := (pths l).filter fun y => !decide (y ∈ ys)
theorem stay_mem {l : List ty.It} {ys : List (List UInt8)} {y : List UInt8} : y ∈ stayL l ys ↔ y ∈ pths l ∧ y ∉ ys := by
 unfold stayL
 rw [List.mem_filter]
 simp
theorem stay_path {l : List ty.It} {ys : List (List UInt8)} {x : ty.It} (hx : x ∈ l) : decide (x.fPath.data.toList ∈ stayL l ys) = !goneB ys x := by
 rw [Bool.eq_iff_iff, decide_eq_true_eq, stay_mem]
 unfold goneB
 simp only [Bool.not_eq_true', decide_eq_false_iff_not]
 exact ⟨fun h => h.2, fun h => ⟨List.mem_map.2 ⟨x, hx, rfl⟩, h⟩⟩
theorem stay_refs {l : List ty.It} {ys : List (List UInt8)} (hs : stB l = true) {x : ty.It} (hx : x ∈ l) : x.fRefs.any (fun y => !decide (y.data.toList ∈ stayL l ys)) = hitB ys x := by
 unfold hitB
 rw [Bool.eq_iff_iff, List.any_eq_true, List.any_eq_true]
 constructor
 ·rintro ⟨y, hy, h⟩
  refine ⟨y, hy, ?_⟩
  simp only [Bool.not_eq_true', decide_eq_false_iff_not, stay_mem, not_and, Classical.not_not] at h
  exact decide_eq_true (h (refs_in hs hx hy))
 ·rintro ⟨y, hy, h⟩
  refine ⟨y, hy, ?_⟩
  simp only [Bool.not_eq_true', decide_eq_false_iff_not, stay_mem, not_and, Classical.not_not]
  exact fun _ => of_decide_eq_true h
set_option maxHeartbeats 8000000 in
set_option maxRecDepth 100000 in
theorem iwth_any (lo lo1 : Nat) (a a1 : Option Addr) (c : Nat) (l : List ty.It) (q : List ByteArray) (w : World) (hb : ty.SrcIt (some lo) w a l) (hw : ty.wtIt l ≤ 1048576) (hq : ty.SrcS (some lo1) w a1 q) (hqw : ty.wtS q ≤ 1048576) (hM : tt.ML w) (hT : wd.TabB w) :
  Calls Tryz.prog 10 #[.slice a l.length c, .slice a1 q.length q.length] w fun e w' => (∃ v, e = .returned (.tuple #[v, .bool (wthB l q)]) ∧ AnS w.heap.size w' v (wthL l q)) ∧ Below w.heap.size w w' := by
 have hql := ty.wtS_len q
 have hll := ty.wtIt_len l
 have HSO : Hid (Calls Tryz.prog 13 #[.slice a l.length c] w fun e w' => e = .returned (.bool (stB l)) ∧ Below w.heap.size w w') := istore_any lo a c l w hb hw hM hT
 have HNO : Hid (¬ (stB l = true ∧ q.length ≤ 2000) → wthL l q = [] ∧ wthB l q = false) := wth_no
 have HYE : Hid (stB l = true ∧ q.length ≤ 2000 → wthL l q = wtL l (toB q) ∧ wthB l q = wtB l (toB q)) := wth_yes
 have HSR : Hid (RdJ w a l) := RdJ.of hb
 have HSI : Hid (ty.SrcIt none w a l) := hb.any
 have HQS : Hid (RdT w a1 q) := RdT.of hq
 have HQZ : Hid (∀ y ∈ q, y.size ≤ 1048576) := fun y hy => by have := ty.wtS_mem hy; omega
 have HXZ : Hid (∀ x ∈ l, x.fPath.size ≤ 1048576 ∧ x.fRefs.length ≤ 1048576 ∧ ∀ y ∈ x.fRefs, y.size ≤ 1048576) := fun x hx => by
  have h1 := ty.wtIt_mem hx
  have h2 := ty.wtS_len x.fRefs
  unfold ty.wt1It at h1
  exact ⟨by omega, by omega, fun y hy => by have := ty.wtS_mem hy; omega⟩
 have HBAD : Hid (∀ (i : Nat) (x : ty.It), l[i]? = some x → badW (toB q) x = true → wtL l (toB q) = l ∧ wtB l (toB q) = false) := fun i x h h' => wt_bad h h'
 have HGOD : Hid ((∀ (i : Nat) (x : ty.It), i < l.length → l[i]? = some x → badW (toB q) x = false) → wtL l (toB q) = keepW (toB q) l ∧ wtB l (toB q) = true) := fun h => wt_good h
 have HSP : Hid (∀ x ∈ l, decide (x.fPath.data.toList ∈ stayL l (toB q)) = !goneB (toB q) x) := fun x hx => stay_path hx
 have HSF : Hid (stB l = true → ∀ x ∈ l, x.fRefs.any (fun y => !decide (y.data.toList ∈ stayL l (toB q))) = hitB (toB q) x) := fun hs x hx => stay_refs hs hx
 have HCL : Hid (∀ (W : World) (v : Value) (l' : List ty.It), RdV W v l' → ty.wtIt l' ≤ ty.wtIt l → Calls Tryz.prog 33 #[v] W fun e w' => (∃ v', e = .returned v' ∧ AnS W.heap.size w' v' l') ∧ Below W.heap.size W w') := fun W v l' h hwl => by
  obtain ⟨a', c', rfl, hj⟩ := h
  refine (clonedI_any a' c' l' W hj (Nat.le_trans hwl hw)).mono ?_
  rintro e w' ⟨⟨rfl, hg⟩, hl⟩
  exact ⟨⟨_, rfl, _, _, rfl, hg⟩, hl⟩
 have HKW : Hid (ty.wtIt (keepW (toB q) l) ≤ ty.wtIt l) := keepW_wt _ _
 have HTK : Hid (∀ (k : Nat) (t : ByteArray), q[k]? = some t → ∀ y, y ∈ stayL l ((toB q).take (k + 1)) ↔ (y ∈ stayL l ((toB q).take k) ∧ y ≠ t.data.toList)) := fun k t ht y => by
  rw [stay_mem, stay_mem, List.take_add_one, toB_at ht, Option.toList_some]
  simp only [List.mem_append, List.mem_singleton, not_or]
  exact ⟨fun h => ⟨⟨h.1, h.2.1⟩, h.2.2⟩, fun h => ⟨h.1.1, h.1.2, h.2⟩⟩
 have HTL : Hid ((toB q).length = q.length) := toB_len q
 have HS0 : Hid (∀ y, y ∈ stayL l ((toB q).take 0) ↔ y ∈ pths l) := fun y => by rw [stay_mem, List.take_zero]; simp
 have HPZ : Hid (∀ x ∈ (l.map fun y => y.fPath), x.size ≤ 1048576) := fun x hx => by
  obtain ⟨y, hy, rfl⟩ := List.mem_map.1 hx
  exact (HXZ.out y hy).1
 obtain ⟨ys, hys⟩ : ∃ ys, toB q = ys := ⟨_, rfl⟩
 rw [hys] at HYE HBAD HGOD HSP HSF HKW HTK HS0 HTL
 obtain ⟨R, hR⟩ : ∃ R, wthL l q = R := ⟨_, rfl⟩
 obtain ⟨V, hV⟩ : ∃ V, wthB l q = V := ⟨_, rfl⟩
 rw [hR, hV] at HNO HYE ⊢
 obtain ⟨n, hnn⟩ : ∃ n, l.length = n := ⟨_, rfl⟩
 have HNN : Hid (l.length = n) := hnn
 obtain ⟨nq, hnq⟩ : ∃ n, q.length = n := ⟨_, rfl⟩
 have HNQ : Hid (q.length = nq) := hnq
 rw [hnq] at HNO HYE HTL hql ⊢
 rw [hnn] at HSO HGOD hll ⊢
 clear hb hq hw hqw hR hV hnn hnq hM hT hys
 cases hs : stB l with
 | false =>
  rw [hs] at HSO
  have HE : Hid (R = [] ∧ V = false) := HNO.out (by rw [hs]; simp)
  have HC : Hid (∀ W : World, Below w.heap.size w W → AnS w.heap.size (W.alloc (.cells #[] 42)) (.slice (some ⟨W.heap.size, 0, none⟩) 0 0) R) := fun W h => by rw [HE.out.1]; exact (an_nil W).mono h.size
  clear HNO HYE HSR HSI HQS HQZ HXZ HBAD HGOD HSP HSF HCL HKW HTK HS0 HPZ hs
  go_enter Tryz.func10, Tryz.ntmps10
  go_wp2_with (go_at_call 13; refine HSO.out.mono ?_; rintro e w1 ⟨rfl, hl1⟩)
  go_ret2
  exact ⟨⟨_, by rw [HE.out.2]; rfl, HC.out _ hl1⟩, hl1.alloc hl1.size _⟩
 | true =>
  rw [hs] at HSO
  by_cases h2 : nq ≤ 2000
  rotate_left
  ·have h2' : (2000 : Int) < (nq : Int) := by omega
   have HE : Hid (R = [] ∧ V = false) := HNO.out (fun h => h2 h.2)
   have HC : Hid (∀ W : World, Below w.heap.size w W → AnS w.heap.size (W.alloc (.cells #[] 42)) (.slice (some ⟨W.heap.size, 0, none⟩) 0 0) R) := fun W h => by rw [HE.out.1]; exact (an_nil W).mono h.size
   clear HNO HYE HSR HSI HQS HQZ HXZ HBAD HGOD HSP HSF HCL HKW HTK HS0 HPZ hs
   go_enter Tryz.func10, Tryz.ntmps10
   go_wp2_with (go_at_call 13; refine HSO.out.mono ?_; rintro e w1 ⟨rfl, hl1⟩)
   go_ret2
   exact ⟨⟨_, by rw [HE.out.2]; rfl, HC.out _ hl1⟩, hl1.alloc hl1.size _⟩
  have h2' : ¬ (2000 : Int) < (nq : Int) := by omega
  have HE : Hid (R = wtL l ys ∧ V = wtB l ys) := HYE.out ⟨hs, h2⟩
  have HSG : Hid (∀ x ∈ l, x.fRefs.any (fun y => !decide (y.data.toList ∈ stayL l ys)) = hitB ys x) := HSF.out hs
  have hn3 : n ≤ 300 := by
   have h9 := hs
   unfold stB at h9
   simp only [Bool.and_eq_true, decide_eq_true_eq] at h9
   have := HNN.out
   omega
  have HPP : Hid (∀ W, Below w.heap.size w W → Calls Tryz.prog 40 #[.slice a n c] W fun e w' => (∃ v, e = .returned v ∧ sr.OwnS W.heap.size w' v (pths l)) ∧ Below W.heap.size W w') := fun W h => by
   have := ipaths_any a c l W (HSI.out.below h) (by rw [HNN.out]; omega)
   rwa [HNN.out] at this
  have HST : Hid (∀ (W : World) (v : Value) (base : Nat), sr.OwnS base W v (pths l) → Calls Tryz.prog 39 #[v] W fun e w' => e = .returned (.map (some W.heap.size)) ∧ StM w' W.heap.size n (pths l) ∧ Below W.heap.size W w') := fun W v base h => by
   rw [← toB_path] at h
   obtain ⟨g, d, rfl, N, f, k1, k2, k3⟩ := oy2 h
   have hsrc : ty.SrcS none W (some ⟨g, 0, none⟩) (l.map fun y => y.fPath) := .inr ⟨g, 0, rfl, ty.Okb.free _ _, fun i y hy => by
    rw [Nat.zero_add, k1.cell (i := i) (by have := (List.getElem?_eq_some_iff.1 hy).1; omega), k3 i y hy]⟩
   have := setOf_any' (some ⟨g, 0, none⟩) d (l.map fun y => y.fPath) W hsrc (by rw [List.length_map, HNN.out]; omega) HPZ.out
   rw [toB_path] at this
   rw [List.length_map, HNN.out] at this ⊢
   exact this
  clear HNO HYE HSF HSI HPZ hs
  go_enter Tryz.func10, Tryz.ntmps10
  go_wp2_with (first
   | (go_at_call 13; refine HSO.out.mono ?_; rintro e w1 ⟨rfl, hl1⟩)
   | (go_at_call 40; refine (HPP.out _ hl1).mono ?_; rintro e w2 ⟨⟨v2, rfl, hv2⟩, hl2⟩)
   | (go_at_call 39; refine (HST.out _ _ _ hv2).mono ?_; rintro e w3 ⟨rfl, hst3, hl3⟩; refine Hid.out ?_))
  refine Lib.hid ?_
  have hB2 : Below w.heap.size w w2 := hl1.trans (hl2.mono hl1.size)
  have hB3 : Below w.heap.size w w3 := hB2.trans (hl3.mono hB2.size)
  have hm2 : w.heap.size ≤ w2.heap.size := hB2.size
  have HB3 : Hid (∀ ob, Below w.heap.size w (w3.alloc ob)) := fun ob => hB3.alloc hB3.size _
  have HST3 : Hid (∀ ob, StM (w3.alloc ob) w2.heap.size n (stayL l (ys.take 0))) := fun ob => by
   obtain ⟨D, k1, k2⟩ := hst3.below ((Below.refl _ _).alloc (Nat.le_refl _) ob)
   exact ⟨D, k1, fun y => (k2 y).trans (HS0.out y).symm⟩
  have hlt3 : w2.heap.size < w3.heap.size := by
   obtain ⟨D, k1, _⟩ := hst3
   exact k1.lt
  have HSB : Hid ((w3.alloc (.cells #[.map (some w2.heap.size)] 58)).cell? ⟨w3.heap.size, 0, none⟩ = some (.map (some w2.heap.size))) := (World.cell?_alloc_new w3 _ _ 0).trans rfl
  obtain ⟨mb, hmb⟩ : ∃ b, w2.heap.size = b := ⟨_, rfl⟩
  rw [hmb] at hm2 HST3 hlt3 HSB ⊢
  clear hl1 hl2 hl3 hv2 hst3 hB2 hB3 hmb
  go_wp2_with fail
  go_loopw [8, 26] (fun _ y wr => ∃ k : Nat, k ≤ nq ∧ y = .int .i64 (k : Int) ∧ wr.cell? ⟨w3.heap.size, 0, none⟩ = some (.map (some mb)) ∧ StM wr mb n (stayL l (ys.take k)) ∧ Below w.heap.size w wr) (fun _ y _ => nq - (intOf y).toNat)
  case atStart => exact ⟨0, Nat.zero_le _, rfl, HSB.out, HST3.out _, HB3.out _⟩
  case round =>
   clear HSB HST3 HB3
   obtain ⟨k, hk, rfl, hcs, hst, hbel⟩ := hrel
   have HBE : Hid (Below w.heap.size w wr) := hbel
   have HST : Hid (StM wr mb n (stayL l (ys.take k))) := hst
   have HCS : Hid (wr.cell? ⟨w3.heap.size, 0, none⟩ = some (.map (some mb))) := hcs
   by_cases hkq : k < nq
   ·have hkq' : (k : Int) < (nq : Int) := by omega
    have hk0' : (0 : Int) ≤ (k : Int) := by omega
    obtain ⟨t, ht⟩ : ∃ t, q[k]? = some t := ⟨_, List.getElem?_eq_getElem (by rw [HNQ.out]; exact hkq)⟩
    obtain ⟨bq, oq, rfl, hcq⟩ := HQS.out.below hbel
    have q0 := hcq k t ht
    have hkey := keyS' t (HQZ.out t (List.mem_of_getElem? ht))
    obtain ⟨D, hown, hD⟩ := hst
    have HDD : Hid (∀ y, Maps.has (D.del (.string t.data.toList)) (.string y) = true ↔ y ∈ stayL l (ys.take (k + 1))) := fun y => by
     rw [HTK.out k t ht y]
     by_cases e : y = t.data.toList
     ·subst e
      rw [has_del_same]
      simp
     ·rw [has_del_other (by simpa using e), hD y]
      simp [e]
    clear hD hcq ht hbel
    go_wp2_with (first
     | (at_delete; refine wpList_delete_own _ rfl _ _ 58 9 rfl 99 keyedS' Tryz.underlying58 _ mb n D rfl hown _ _ rfl hkey ?_; intro w5 hown5 hturn5; refine Hid.out ?_)
     | go_in)
    refine Lib.hid ?_
    have HN5 : Hid (StM w5 mb n (stayL l (ys.take (k + 1)))) := ⟨_, hown5, HDD.out⟩
    have HB5 : Hid (Below w.heap.size w w5) := HBE.out.grown hturn5.grown HBE.out.size (fun k hk => by have := Option.some.inj hk; omega)
    have HC5 : Hid (w5.cell? ⟨w3.heap.size, 0, none⟩ = some (.map (some mb))) := hturn5.grown.cell HCS.out (fun e => by have := Option.some.inj e; simp at this; omega)
    clear hown5 hturn5 hown HDD
    go_wp2
    go_roundw
    case rel => exact ⟨k + 1, by omega, by go_num, HC5.out, HN5.out, HB5.out⟩
    case measure => simp [intOf] <;> omega
   ·have hkq' : ¬ (k : Int) < (nq : Int) := by omega
    have HSE : Hid (StM wr mb n (stayL l ys)) := by
     have := HST.out
     rwa [List.take_of_length_le (by rw [HTL.out]; omega)] at this
    have hsbl : w3.heap.size < wr.heap.size := World.block_lt_of_cell? _ _ hcs
    rename World => wx
    have HO0 : Hid (RwI wx.heap.size (wx.alloc (.cells #[] 42)) (.slice (some ⟨wx.heap.size, 0, none⟩) 0 0) []) := rw_nil wx
    have HA0 : Hid (Below wx.heap.size wx (wx.alloc (.cells #[] 42))) := (Below.refl _ _).alloc (Nat.le_refl _) _
    have HS0 : Hid (StM (wx.alloc (.cells #[] 42)) mb n (stayL l ys)) := HSE.out.below HA0.out
    have HC0 : Hid ((wx.alloc (.cells #[] 42)).cell? ⟨w3.heap.size, 0, none⟩ = some (.map (some mb))) := (HA0.out.cell (p := ⟨w3.heap.size, 0, none⟩) hsbl).trans HCS.out
    have HB0 : Hid (Below w.heap.size w (wx.alloc (.cells #[] 42))) := HBE.out.trans (HA0.out.mono HBE.out.size)
    have HXL : Hid (w.heap.size ≤ wx.heap.size) := HBE.out.size
    clear hst hbel HST HCS HBE HTK HQS HQZ
    go_wp2
    go_loopw [9, 11, 36] (fun v _ y wr => ∃ (i : Nat) (zs : List Iz), i ≤ n ∧ y = .int .i64 (i : Int) ∧ zs.map Iz.x = keepW ys (l.take i) ∧ zs.length ≤ i ∧ (∀ (j : Nat) (x : ty.It), j < i → l[j]? = some x → badW ys x = false) ∧ (∀ (j : Nat) (z : Iz), zs[j]? = some z → RdZ w z) ∧ RwI wx.heap.size wr v zs ∧ wr.cell? ⟨w3.heap.size, 0, none⟩ = some (.map (some mb)) ∧ StM wr mb n (stayL l ys) ∧ Below w.heap.size w wr) (fun _ _ y _ => n - (intOf y).toNat)
    case atStart => exact ⟨0, [], Nat.zero_le _, rfl, by simp [keepW], Nat.le_refl _, fun j x h => by omega, fun j z h => by simp at h, HO0.out, HC0.out, HS0.out, HB0.out⟩
    case round =>
     clear HO0 HA0 HS0 HC0 HB0 HSE
     obtain ⟨i, zs, hi, rfl, hmap, hzl, hgd, hrz, hown, hcs, hst, hbel⟩ := hrel
     have HBE : Hid (Below w.heap.size w wr) := hbel
     have HMA : Hid (zs.map Iz.x = keepW ys (l.take i)) := hmap
     have HGD : Hid (∀ (j : Nat) (x : ty.It), j < i → l[j]? = some x → badW ys x = false) := hgd
     have HRZ : Hid (∀ (j : Nat) (z : Iz), zs[j]? = some z → RdZ w z) := hrz
     have HOW : Hid (RwI wx.heap.size wr u9 zs) := hown
     have HST : Hid (StM wr mb n (stayL l ys)) := hst
     have HCS : Hid (wr.cell? ⟨w3.heap.size, 0, none⟩ = some (.map (some mb))) := hcs
     clear hmap hgd hrz hown hst
     by_cases hil : i < n
     rotate_left
     ·have hil' : ¬ (i : Int) < (n : Int) := by omega
      have HF : Hid (wtL l ys = keepW ys l ∧ wtB l ys = true) := HGOD.out fun j x hj hx => HGD.out j x (by omega) hx
      have HV : Hid (RdV wr u9 (keepW ys l)) := by
       have h1 := rdv_of HOW.out fun j z hz => (HRZ.out j z hz).below HBE.out
       rw [HMA.out, List.take_of_length_le (by rw [HNN.out]; omega)] at h1
       exact h1
      have HCK : Hid (Calls Tryz.prog 33 #[u9] wr fun e w' => (∃ v', e = .returned v' ∧ AnS wr.heap.size w' v' (keepW ys l)) ∧ Below wr.heap.size wr w') := HCL.out wr u9 _ HV.out HKW.out
      clear hbel hcs
      go_wp2_with (go_at_call 33; refine HCK.out.mono ?_; rintro e w6 ⟨⟨v6, rfl, hv6⟩, hl6⟩)
      go_ret2
      exact ⟨⟨_, by rw [HE.out.2, HF.out.2]; rfl, by rw [HE.out.1, HF.out.1]; exact hv6.mono HBE.out.size⟩, HBE.out.trans (hl6.mono HBE.out.size)⟩
     have hil' : (i : Int) < (n : Int) := by omega
     have hi0' : (0 : Int) ≤ (i : Int) := by omega
     obtain ⟨x, hx⟩ : ∃ x, l[i]? = some x := ⟨_, List.getElem?_eq_getElem (by rw [HNN.out]; exact hil)⟩
     have HX : Hid (l[i]? = some x) := hx
     have hxm := List.mem_of_getElem? hx
     obtain ⟨xz1, xz2, xz3⟩ := HXZ.out x hxm
     obtain ⟨b, o, a2, c2, a4, c4, rfl, ⟨q0, q1, q2, q3, q4⟩, s2, s4⟩ := HSR.out i x hx
     have HZX : Hid (RdZ w ⟨x, a2, c2, a4, c4, 0, 0, 0, 0⟩) := ⟨s2, s4⟩
     have kq : ∀ {p v}, w.cell? ⟨b, p, none⟩ = some v → wr.cell? ⟨b, p, none⟩ = some v := fun {p v} h' => (hbel.cell (p := ⟨b, p, none⟩) (World.block_lt_of_cell? _ _ h')).trans h'
     have r0 := kq q0
     have r1 := kq q1
     have r2 := kq q2
     have r3 := kq q3
     have r4 := kq q4
     have HIZ : Hid (izC ⟨x, a2, c2, a4, c4, 0, 0, 0, 0⟩ = [.string x.fPath, .string x.fSum, .slice a2 x.fRefs.length c2, .string x.fFrom, .slice a4 x.fTree.length c4]) := rfl
     have HKT : Hid (keepW ys (l.take (i + 1)) = keepW ys (l.take i) ++ (if goneB ys x = true then [] else [x])) := keepW_take hx
     have HBW : Hid (badW ys x = (!goneB ys x && hitB ys x)) := rfl
     have hsl : w3.heap.size < wr.heap.size := World.block_lt_of_cell? _ _ hcs
     have HAL : Hid (∀ ob, Below wr.heap.size wr (wr.alloc ob)) := fun ob => (Below.refl _ _).alloc (Nat.le_refl _) _
     have HHS : Hid (∀ ob, Calls Tryz.prog 41 #[.map (some mb), .string x.fPath] (wr.alloc ob) fun e w' => e = .returned (.bool (!goneB ys x)) ∧ Below (wr.alloc ob).heap.size (wr.alloc ob) w') := fun ob => by
      rw [← HSP.out x hxm]
      exact hasw_any x.fPath xz1 mb n _ _ (HST.out.below (HAL.out ob))
     have HCO : Hid (∀ ob W, Below (wr.alloc ob).heap.size (wr.alloc ob) W → Calls Tryz.prog 42 #[.slice a2 x.fRefs.length c2, .func (.func 43) #[] #[.pointer (some ⟨w3.heap.size, 0, none⟩)]] W fun e w' => e = .returned (.bool (hitB ys x)) ∧ Below W.heap.size W w') := fun ob W hW => by
      have hB : Below wr.heap.size wr W := (HAL.out ob).trans (hW.mono (HAL.out ob).size)
      rw [← HSG.out x hxm]
      exact conw_any a2 c2 x.fRefs w3.heap.size mb n _ W ((s2.below HBE.out).below hB) xz2 xz3 (HST.out.below hB) ((hB.cell (p := ⟨w3.heap.size, 0, none⟩) hsl).trans HCS.out)
     obtain ⟨A0, hA0⟩ : ∃ P, x.fPath = P := ⟨_, rfl⟩
     obtain ⟨A1, hA1⟩ : ∃ P, x.fSum = P := ⟨_, rfl⟩
     obtain ⟨A3, hA3⟩ : ∃ P, x.fFrom = P := ⟨_, rfl⟩
     obtain ⟨n2, hn2⟩ : ∃ P, x.fRefs.length = P := ⟨_, rfl⟩
     obtain ⟨n4, hn4⟩ : ∃ P, x.fTree.length = P := ⟨_, rfl⟩
     rw [hA0] at r0 HHS HIZ
     rw [hA1] at r1 HIZ
     rw [hA3] at r3 HIZ
     rw [hn2] at r2 HCO HIZ
     rw [hn4] at r4 HIZ
     obtain ⟨G, hG⟩ : ∃ B, goneB ys x = B := ⟨_, rfl⟩
     obtain ⟨H, hH⟩ : ∃ B, hitB ys x = B := ⟨_, rfl⟩
     rw [hG] at HHS HKT HBW
     rw [hH] at HCO HBW
     have HBX : Hid (∀ ob W, Below (wr.alloc ob).heap.size (wr.alloc ob) W → Below w.heap.size w W ∧ StM W mb n (stayL l ys) ∧ W.cell? ⟨w3.heap.size, 0, none⟩ = some (.map (some mb)) ∧ RwI wx.heap.size W u9 zs) := fun ob W hW => by
      have hB : Below wr.heap.size wr W := (HAL.out ob).trans (hW.mono (HAL.out ob).size)
      exact ⟨HBE.out.trans (hB.mono HBE.out.size), HST.out.below hB, (hB.cell (p := ⟨w3.heap.size, 0, none⟩) hsl).trans HCS.out, HOW.out.below hB⟩
     have HBC : Hid (∀ W, Below (wr.alloc (.cells #[.string A0, .string A1, .slice a2 n2 c2, .string A3, .slice a4 n4 c4] 42)).heap.size (wr.alloc (.cells #[.string A0, .string A1, .slice a2 n2 c2, .string A3, .slice a4 n4 c4] 42)) W → W.cell? ⟨wr.heap.size, 0, none⟩ = some (.string A0) ∧ W.cell? ⟨wr.heap.size, 1, none⟩ = some (.string A1) ∧ W.cell? ⟨wr.heap.size, 2, none⟩ = some (.slice a2 n2 c2) ∧ W.cell? ⟨wr.heap.size, 3, none⟩ = some (.string A3) ∧ W.cell? ⟨wr.heap.size, 4, none⟩ = some (.slice a4 n4 c4)) := fun W hW => by
      have k := fun j => hW.cell (p := ⟨wr.heap.size, j, none⟩) (by simp)
      rw [k 0, k 1, k 2, k 3, k 4]
      exact ⟨by simp [go_sem], by simp [go_sem], by simp [go_sem], by simp [go_sem], by simp [go_sem]⟩
     clear hA0 hA1 hA3 hn2 hn4 hG hH hx hxm xz1 xz2 xz3 q0 q1 q2 q3 q4 s2 s4 hbel kq
     cases G with
     | true =>
      have HM1 : Hid (zs.map Iz.x = keepW ys (l.take (i + 1))) := by show _ = _; rw [HKT.out, if_pos rfl, List.append_nil]; exact HMA.out
      have HG1 : Hid (∀ (j : Nat) (x : ty.It), j < i + 1 → l[j]? = some x → badW ys x = false) := fun j y hj hy => by
       rcases Nat.lt_or_ge j i with h | h
       ·exact HGD.out j y h hy
       ·obtain rfl : j = i := by omega
        rw [HX.out] at hy
        cases hy
        rw [HBW.out]
        rfl
      go_wp2_with (go_at_call 41; refine (HHS.out _).mono ?_; rintro e w6 ⟨rfl, hl6⟩; obtain ⟨y1, y2, y3, y4⟩ := HBX.out _ _ hl6)
      go_roundw
      case rel => exact ⟨i + 1, zs, by omega, by go_num, HM1.out, by omega, HG1.out, HRZ.out, y4, y3, y2, y1⟩
      case measure => simp [intOf] <;> omega
     | false =>
      cases H with
      | true =>
       have HF : Hid (wtL l ys = l ∧ wtB l ys = false) := HBAD.out i x HX.out HBW.out
       have HCK : Hid (∀ W, Below w.heap.size w W → Calls Tryz.prog 33 #[.slice (some ⟨b, o, none⟩) n c] W fun e w' => (∃ v', e = .returned v' ∧ AnS W.heap.size w' v' l) ∧ Below W.heap.size W w') := fun W hW => HCL.out W _ _ ⟨some ⟨b, o, none⟩, c, by rw [HNN.out], HSR.out.below hW⟩ (Nat.le_refl _)
       go_wp2_with (first
        | (go_at_call 41; refine (HHS.out _).mono ?_; rintro e w6 ⟨rfl, hl6⟩; obtain ⟨y1, y2, y3, y4⟩ := HBX.out _ _ hl6; obtain ⟨v0, v1, v2, v3, v4⟩ := HBC.out _ hl6)
        | (go_at_call 42; refine (HCO.out _ _ hl6).mono ?_; rintro e w7 ⟨rfl, hl7⟩; have hB7 : Below w.heap.size w w7 := y1.trans (hl7.mono y1.size))
        | (go_at_call 33; refine (HCK.out _ hB7).mono ?_; rintro e w8 ⟨⟨v8, rfl, hv8⟩, hl8⟩))
       go_ret2
       exact ⟨⟨_, by rw [HE.out.2, HF.out.2]; rfl, by rw [HE.out.1, HF.out.1]; exact hv8.mono hB7.size⟩, hB7.trans (hl8.mono hB7.size)⟩
      | false =>
       have HM1 : Hid (keepW ys (l.take (i + 1)) = keepW ys (l.take i) ++ [x]) := by show _ = _; rw [HKT.out, if_neg (by decide)]
       have HG1 : Hid (∀ (j : Nat) (x : ty.It), j < i + 1 → l[j]? = some x → badW ys x = false) := fun j y hj hy => by
        rcases Nat.lt_or_ge j i with h | h
        ·exact HGD.out j y h hy
        ·obtain rfl : j = i := by omega
         rw [HX.out] at hy
         cases hy
         rw [HBW.out]
         rfl
       go_wp2_with (first
        | (go_at_call 41; refine (HHS.out _).mono ?_; rintro e w6 ⟨rfl, hl6⟩; obtain ⟨y1, y2, y3, y4⟩ := HBX.out _ _ hl6; obtain ⟨v0, v1, v2, v3, v4⟩ := HBC.out _ hl6)
        | (go_at_call 42; refine (HCO.out _ _ hl6).mono ?_; rintro e w7 ⟨rfl, hl7⟩; have hL7 := hl6.trans (hl7.mono hl6.size); obtain ⟨x1, x2, x3, x4⟩ := HBX.out _ _ hL7; obtain ⟨t0, t1, t2, t3, t4⟩ := HBC.out _ hL7; refine Hid.out ?_))
       refine Lib.hid ?_
       have HY1 : Hid (Below w.heap.size w w7) := x1
       have HY2 : Hid (StM w7 mb n (stayL l ys)) := x2
       have HY3 : Hid (w7.cell? ⟨w3.heap.size, 0, none⟩ = some (.map (some mb))) := x3
       have HY4 : Hid (RwI wx.heap.size w7 u9 zs) := x4
       have HSZ7 : Hid (wr.heap.size < w7.heap.size) := World.block_lt_of_cell? _ _ t0
       obtain ⟨W2, hW2⟩ : ∃ W2, W2 = w7.alloc (.cells #[.string A0, .string A1, .slice a2 n2 c2, .string A3, .slice a4 n4 c4] 42) := ⟨_, rfl⟩
       have HW2 : Hid (W2 = w7.alloc (.cells #[.string A0, .string A1, .slice a2 n2 c2, .string A3, .slice a4 n4 c4] 42)) := hW2
       have HL2 : Hid (Below w7.heap.size w7 W2) := by show Below _ _ _; rw [hW2]; exact (Below.refl _ _).alloc (Nat.le_refl _) _
       have HO2 : Hid (RwI wx.heap.size W2 u9 zs) := HY4.out.below HL2.out
       have HNW : Hid (∀ j u, (izC ⟨x, a2, c2, a4, c4, 0, 0, 0, 0⟩)[j]? = some u → W2.cell? ((⟨w7.heap.size, 0, none⟩ : Addr).add j) = some u) := by
        show ∀ j u, _ → _
        rw [hW2, HIZ.out]
        exact cells_newI w7 _ rfl _ _
       have HSB2 : Hid (wx.heap.size ≤ W2.heap.size) := by
        obtain ⟨g, gc, e, k1, ⟨f, k2⟩, _⟩ := HO2.out.shape
        have := k2.lt
        show _ ≤ _
        omega
       have HZ9 : Hid (zs.length ≤ 400000000) := by show _ ≤ _; omega
       clear hW2 x1 x2 x3 x4 y1 y2 y3 y4 hl6 hl7 hL7 v0 v1 v2 v3 v4
       go_wp2_with (first
        | (at_builtin; refine app_it _ rfl _ _ rfl wx.heap.size u9 zs rfl (by rw [← HW2.out]; exact HO2.out) ⟨w7.heap.size, 0, none⟩ 1 ⟨x, a2, c2, a4, c4, 0, 0, 0, 0⟩ rfl (by rw [← HW2.out]; exact HNW.out) HZ9.out (by rw [← HW2.out]; exact HSB2.out) ?_; intro v9 w9 hown9 hg9; refine Hid.out ?_)
        | go_in)
       refine Lib.hid ?_
       rw [← HW2.out] at hg9
       have hgb : ∀ p, p < wx.heap.size → w9.heap[p]? = W2.heap[p]? := fun p hp => hg9.block p (by have := HSB2.out; omega) (fun e => by
        obtain ⟨g, gc, e9, k1, _⟩ := HO2.out.shape
        rw [e9] at e
        have : g = p := by simpa [Value.ownBlock] using e.symm
        omega)
       have hwx := HXL.out
       have HB9 : Hid (Below w.heap.size w w9) := by
        have h1 : Below w.heap.size w W2 := HY1.out.trans (HL2.out.mono HY1.out.size)
        exact h1.grown hg9 h1.size (fun k hk => by
         obtain ⟨g, gc, e9, k1, _⟩ := HO2.out.shape
         rw [e9] at hk
         have : g = k := by simpa [Value.ownBlock] using hk
         omega)
       have hmx : mb < wx.heap.size := by omega
       have HS9 : Hid (StM w9 mb n (stayL l ys)) := by
        obtain ⟨D, k1, k2⟩ := HY2.out.below HL2.out
        exact ⟨D, k1.kept (row := u9.ownBlock) hg9 (fun e => by
         obtain ⟨g, gc, e9, k3, _⟩ := HO2.out.shape
         rw [e9] at e
         have : g = mb := by simpa [Value.ownBlock] using e.symm
         omega), k2⟩
       have HC9 : Hid (w9.cell? ⟨w3.heap.size, 0, none⟩ = some (.map (some mb))) := (World.cell?_of_block (a := ⟨w3.heap.size, 0, none⟩) ((hgb _ hsbl).trans (HL2.out.block _ (World.block_lt_of_cell? _ _ HY3.out)))).trans HY3.out
       have HO9 : Hid (RwI wx.heap.size w9 v9 (zs ++ [⟨x, a2, c2, a4, c4, 0, 0, 0, 0⟩])) := hown9
       have HMZ : Hid ((zs ++ [(⟨x, a2, c2, a4, c4, 0, 0, 0, 0⟩ : Iz)]).map Iz.x = keepW ys (l.take (i + 1))) := by show _ = _; rw [HM1.out, List.map_append, HMA.out]; rfl
       have HR9 : Hid (∀ (j : Nat) (z : Iz), (zs ++ [(⟨x, a2, c2, a4, c4, 0, 0, 0, 0⟩ : Iz)])[j]? = some z → RdZ w z) := fun j z hz => by
        rcases Nat.lt_or_ge j zs.length with h | h
        ·rw [List.getElem?_append_left h] at hz
         exact HRZ.out j z hz
        ·rw [List.getElem?_append_right h] at hz
         rcases hjz : j - zs.length with _ | m
         ·rw [hjz] at hz
          have e : (⟨x, a2, c2, a4, c4, 0, 0, 0, 0⟩ : Iz) = z := by simpa using hz
          subst e
          exact HZX.out
         ·rw [hjz] at hz; simp at hz
       clear hown9 hg9 hgb
       go_wp2_with fail
       go_roundw
       case rel => exact ⟨i + 1, _, by omega, by go_num, HMZ.out, by rw [List.length_append]; show zs.length + 1 ≤ _; omega, HG1.out, HR9.out, HO9.out, HC9.out, HS9.out, HB9.out⟩
       case measure => simp [intOf] <;> omega
end Go.Proofs.YtcpmgellfaeejaaGreatDoor.so

namespace Go.Proofs.YtcpmgellfaeejaaGreatDoor.so
open Go.ChangeShapes Go.WideShapes Go.ChangeAt Go.RowKit Go.Deep Go.Shelf Go.Maps
set_option linter.unusedVariables false
set_option linter.unusedSimpArgs false
set_option maxRecDepth 100000 in
theorem big_any (a : Option Addr) (n cap : Nat) (w : World) : Calls Tryz.prog 5 #[.slice a n cap] w fun e w' => e = .returned (.bool (decide (1048576 < (n : Int)))) ∧ w' = w := by
 go_enter Tryz.func5, Tryz.ntmps5
 go_wp2
 go_ret
 exact ⟨by first | rfl | simp, rfl⟩
theorem ait_cases (ps : List ty.It) (p fr : ByteArray) (t : List ty.Et) : (aitC ps p fr t = 5 ∧ aitL ps p fr t = []) ∨ (aitC ps p fr t ≠ 0 ∧ aitC ps p fr t ≠ 5 ∧ aitL ps p fr t = ps) ∨ (aitB ps p fr t = true ∧ addC ps p t = 0 ∧ aitC ps p fr t = 0 ∧ aitL ps p fr t = addL ps p fr t) := by
 unfold aitC aitL
 cases h : aitB ps p fr t with
 | false => exact .inl ⟨rfl, rfl⟩
 | true =>
  rw [if_pos rfl, if_pos rfl]
  by_cases h0 : addC ps p t = 0
  ·exact .inr (.inr ⟨rfl, h0, h0, rfl⟩)
  ·refine .inr (.inl ⟨h0, ?_, ?_⟩)
   ·unfold addC
    split
    ·unfold hadC
     split <;> decide
    ·split
     ·decide
     ·split <;> decide
   ·unfold addL
    rw [if_neg h0]
theorem ait_none : aitC [] ⟨#[]⟩ ⟨#[]⟩ [] = 5 := by
 unfold aitC
 have h : aitB [] ⟨#[]⟩ ⟨#[]⟩ [] = false := by
  unfold aitB
  have : wd.aokB (⟨#[]⟩ : ByteArray) = false := by
   unfold wd.aokB
   simp [ByteArray.size]
  rw [this]
  simp
 rw [if_neg (by rw [h]; decide)]
theorem ait_again {ps : List ty.It} {p fr : ByteArray} {t : List ty.Et} (h : aitB ps p fr t = true) (h0 : addC ps p t = 0) : aitC (addL ps p fr t) p fr t = 1 ∧ aitL (addL ps p fr t) p fr t = addL ps p fr t := by
 obtain ⟨h1, h2⟩ := add_again h h0
 have hb : aitB (addL ps p fr t) p fr t = true := by
  have h3 := st_add h
  unfold aitB at h ⊢
  simp only [Bool.and_eq_true] at h ⊢
  exact ⟨h3, h.2⟩
 unfold aitC aitL
 rw [if_pos hb, if_pos hb]
 exact ⟨h1, h2⟩
theorem add_wt {ps : List ty.It} {p fr : ByteArray} {t : List ty.Et} (h : aitB ps p fr t = true) (h0 : addC ps p t = 0) (hn : ps.length ≤ 8) (hw : ty.wtIt ps ≤ 517000) (ht : ty.wtEt t ≤ 100000) (hp : p.size ≤ 17) (hf : fr.size ≤ 1) : ty.wtIt (addL ps p fr t) ≤ 700000 := by
 unfold aitB at h
 simp only [Bool.and_eq_true] at h
 obtain ⟨h1, h2, h3, h4⟩ := h
 unfold addL
 rw [if_pos h0, ins_wt]
 obtain ⟨k1, k2⟩ := new_refs (ps := ps) (p := p) (fr := fr) (t := t)
 have k3 : (ps.length + 1) * 75 ≤ 9 * 75 := Nat.mul_le_mul_right _ (by omega)
 have hts : (tt.tsB (enT t) t.length).size = 13 := by rw [tt.tsB_yes h4, wd.wordA_size]
 have hw1 : ty.wt1It (newI ps p fr t) = p.size + (tt.tsB (enT t) t.length).size + ty.wtS (newI ps p fr t).fRefs + fr.size + ty.wtEt t := rfl
 omega
set_option maxHeartbeats 8000000 in
set_option maxRecDepth 100000 in
theorem sa_law (a : Option Addr) (n cap : Nat) (w : World) (hb : dr.CodeB w a n) (hlt : ∀ x, a = some x → 0 < n → x.block < w.heap.size) (hm : tt.ML w) (hT : wd.TabB w) :
  Calls Tryz.prog 3 #[.slice a n cap] w fun e w' => e = .returned (.bool true) ∧ Below w.heap.size w w' := by
 by_cases hn : n ≤ 1048576
 ·have hn' : ¬ (1048576 : Int) < (n : Int) := by omega
  have hd' : decide (1048576 < (n : Int)) = false := by simpa using hn'
  have HM : Hid (∀ W, Below w.heap.size w W → tt.ML W) := fun W h => hm.below h
  have HT : Hid (∀ W, Below w.heap.size w W → wd.TabB W) := fun W h => hT.below h
  have HD1 := Lib.hid (drawAdd (cap := cap) hb hn hlt)
  have HLV : Hid (∀ W, Below w.heap.size w W → Calls Tryz.prog 7 #[.slice (some ⟨W.heap.size, 0, none⟩) 0 0, .string ⟨#[]⟩, .slice (some ⟨W.heap.size + 1, 0, none⟩) 0 0, .string ⟨#[]⟩] ((W.alloc (.cells #[] 42)).alloc (.cells #[] 73)) fun e w' => (∃ v, e = .returned (.tuple #[v, .int .i64 5])) ∧ Below W.heap.size W w') := fun W h => by
   have h1 : Below W.heap.size W ((W.alloc (.cells #[] 42)).alloc (.cells #[] 73)) := ((Below.refl _ _).alloc (Nat.le_refl _) _).alloc (by simp) _
   have h2 : Below w.heap.size w ((W.alloc (.cells #[] 42)).alloc (.cells #[] 73)) := h.trans (h1.mono h.size)
   have hr := (World.rowIs_alloc W #[] 42 (fun _ => undef) (fun i hi => by simp at hi)).alloc (.cells #[] 73)
   refine (iaddX W.heap.size (some ⟨W.heap.size, 0, none⟩) (some ⟨W.heap.size + 1, 0, none⟩) 0 0 [] ⟨#[]⟩ ⟨#[]⟩ [] _ (.inr ⟨_, 0, rfl, okb_row hr (Nat.le_refl _), fun i x hx => by simp at hx⟩) (by decide) ⟨_, 0, rfl, fun i x hx => by simp at hx⟩ (Nat.le_refl _) (by unfold maxLen; omega) (Nat.le_refl _) (by decide) (by decide) (by decide) (hm.below h2) (hT.below h2)).mono ?_
   rintro e w' ⟨⟨v, rfl, _⟩, hl⟩
   rw [ait_none]
   exact ⟨⟨v, rfl⟩, h1.trans (hl.mono h1.size)⟩
  clear hb hlt hT hm
  go_enter Tryz.func3, Tryz.ntmps3
  go_wp2_with (go_at_call 5; refine (big_any _ _ _ _).mono ?_; rintro e w' ⟨rfl, hw⟩; have hw2 := hw.symm; subst hw2; clear hw; rw [hd'])
  go_wp2_with (go_at_call 6; refine HD1.out.mono ?_; rintro e w1 ⟨⟨v, p, v4, fr, rfl, g, cc, zs, tb, tc, t, hd⟩, l1⟩; have B1 := Lib.hid l1; obtain rfl := hd.v; obtain rfl := hd.v4; have HD := Lib.hid hd; clear l1 hd HD1; refine Hid.out ?_)
  refine Lib.hid ?_
  obtain ⟨ps, hps⟩ : ∃ ps, zs.map Iz.x = ps := ⟨_, rfl⟩
  have hpl : zs.length = ps.length := by rw [← hps, List.length_map]
  have HST : Hid (∀ W, Below w1.heap.size w1 W → ty.SrcIt (some w.heap.size) W (some ⟨g, 0, none⟩) ps ∧ RdE W (some ⟨tb, 0, none⟩) t) := fun W h => ⟨by rw [← hps]; exact HD.out.sx.src.below h, HD.out.rd.below h⟩
  have HF : Hid ((ps.length ≤ 8 ∧ ps.length ≤ cc ∧ ty.wtIt ps ≤ 517000) ∧ (t.length ≤ tc ∧ tc ≤ maxLen ∧ ty.wtEt t ≤ 100000) ∧ p.size ≤ 17 ∧ fr.size ≤ 1) := ⟨⟨by rw [← hpl]; exact HD.out.few, by rw [← hpl]; exact HD.out.sx.few, by rw [← hps]; exact HD.out.wt⟩, ⟨HD.out.le, HD.out.mx, HD.out.wtt⟩, HD.out.pz, HD.out.fz⟩
  rw [hpl]
  clear hps hpl HD
  have HW : Hid (∀ W, Below w1.heap.size w1 W → Below w.heap.size w W) := fun W h => B1.out.trans (h.mono B1.out.size)
  have HAI : Hid (∀ (W : World) lo a c xs, Below w1.heap.size w1 W → ty.SrcIt (some lo) W a xs → xs.length ≤ c → ty.wtIt xs ≤ 700000 → Calls Tryz.prog 7 #[.slice a xs.length c, .string p, .slice (some ⟨tb, 0, none⟩) t.length tc, .string fr] W fun e w' => (∃ g' c', e = .returned (.tuple #[.slice (some ⟨g', 0, none⟩) (aitL xs p fr t).length c', .int .i64 (aitC xs p fr t)]) ∧ (aitL xs p fr t).length ≤ c' ∧ ty.SrcIt (some W.heap.size) w' (some ⟨g', 0, none⟩) (aitL xs p fr t)) ∧ Below W.heap.size W w') := fun W lo a c xs h hs hc hw => by
   obtain ⟨-, ⟨f4, f5, f6⟩, f7, f8⟩ := HF.out
   refine (iaddX lo a (some ⟨tb, 0, none⟩) c tc xs p fr t W hs (by omega) (HST.out W h).2 f4 f5 hc (by omega) (by omega) (by omega) (HM.out W (HW.out W h)) (HT.out W (HW.out W h))).mono ?_
   rintro e w' ⟨⟨v, rfl, g', c', rfl, q1, q2⟩, hl⟩
   exact ⟨⟨g', c', rfl, q1, q2⟩, hl⟩
  have HSA : Hid (∀ (W : World), Below w1.heap.size w1 W → Calls Tryz.prog 8 #[.slice (some ⟨g, 0, none⟩) ps.length cc, .string p, .slice (some ⟨tb, 0, none⟩) t.length tc, .string fr] W fun e w' => (∃ v, e = .returned (.tuple #[v, .int .i64 (aitC ps p fr t)])) ∧ Below W.heap.size W w') := fun W h => by
   obtain ⟨⟨f1, f2, f3⟩, ⟨f4, f5, f6⟩, f7, f8⟩ := HF.out
   refine (saddX w.heap.size (some ⟨g, 0, none⟩) (some ⟨tb, 0, none⟩) cc tc ps p fr t W (HST.out W h).1 (by omega) (HST.out W h).2 f4 f5 (by omega) (by omega) (by omega)).mono ?_
   rintro e w' ⟨⟨v, rfl, _⟩, hl⟩
   exact ⟨⟨v, rfl⟩, hl⟩
  have HI1 := Lib.hid (HAI.out w1 w.heap.size (some ⟨g, 0, none⟩) cc ps (Below.refl _ _) (HST.out w1 (Below.refl _ _)).1 HF.out.1.2.1 (Nat.le_trans HF.out.1.2.2 (by decide)))
  rcases ait_cases ps p fr t with ⟨hC, hL⟩ | ⟨hC0, hC5, hL⟩ | ⟨hA, hA0, hC, hL⟩
  ·rw [hC, hL] at HI1
   rw [hC] at HSA
   clear hC hL
   generalize t.length = tl at *
   generalize ps.length = pl at *
   go_wp2_with (go_at_call 7; refine HI1.out.mono ?_; rintro e w2 ⟨⟨g2, c2, rfl, _, _⟩, l2⟩; have C2 := Lib.hid l2; clear l2 HI1; refine Hid.out ?_)
   refine Lib.hid ?_
   go_wp2_with (go_at_call 7; refine (HLV.out _ (HW.out _ C2.out)).mono ?_; rintro e w3 ⟨⟨v3, rfl⟩, l3⟩; have C3 := Lib.hid (C2.out.trans (l3.mono C2.out.size)); clear l3 C2; refine Hid.out ?_)
   refine Lib.hid ?_
   go_wp2_with (go_at_call 8; refine (HSA.out _ C3.out).mono ?_; rintro e w4 ⟨⟨v4, rfl⟩, l4⟩; have C4 := Lib.hid (C3.out.trans (l4.mono C3.out.size)); clear l4 C3; refine Hid.out ?_)
   refine Lib.hid ?_
   go_wp2
   go_ret
   exact ⟨rfl, HW.out _ C4.out⟩
  ·have HSS : Hid (∀ W g' c', Below w1.heap.size w1 W → ty.SrcIt none W (some ⟨g', 0, none⟩) ps → Calls Tryz.prog 9 #[.slice (some ⟨g', 0, none⟩) ps.length c', .slice (some ⟨g, 0, none⟩) ps.length cc] W fun e w' => e = .returned (.bool true) ∧ Below W.heap.size W w') := fun W g' c' h hs =>
    sameSt_any _ _ c' cc ps W hs (HST.out W h).1.any (by have := HF.out.1.1; omega) (fun x hx => by
     have h1 := ty.wtIt_mem hx
     have h2 := HF.out.1.2.2
     have h3 := ty.wtS_len x.fRefs
     have h4 := ty.wtEt_len x.fTree
     unfold ty.wt1It at h1
     omega)
   rw [hL] at HI1
   obtain ⟨K, hK⟩ : ∃ K, aitC ps p fr t = K := ⟨_, rfl⟩
   rw [hK] at HI1 HSA hC0 hC5
   have hkk : (K != K) = false := by simp
   have hk5 : (K == 5) = false := by simpa using hC5
   have hk0 : (K != 0) = true := by simpa using hC0
   clear hC0 hC5 hL hK
   obtain ⟨pl, hpl⟩ : ∃ l, ps.length = l := ⟨_, rfl⟩
   rw [hpl] at HI1 HSA HSS ⊢
   clear hpl
   generalize t.length = tl at *
   go_wp2_with (go_at_call 7; refine HI1.out.mono ?_; rintro e w2 ⟨⟨g2, c2, rfl, _, hs2⟩, l2⟩; have C2 := Lib.hid l2; have S2 := Lib.hid hs2.any; clear l2 hs2 HI1; refine Hid.out ?_)
   refine Lib.hid ?_
   go_wp2_with (go_at_call 7; refine (HLV.out _ (HW.out _ C2.out)).mono ?_; rintro e w3 ⟨⟨v3, rfl⟩, l3⟩; have C3 := Lib.hid (C2.out.trans (l3.mono C2.out.size)); have S3 := Lib.hid (S2.out.below l3); clear l3 C2 S2; refine Hid.out ?_)
   refine Lib.hid ?_
   go_wp2_with (go_at_call 8; refine (HSA.out _ C3.out).mono ?_; rintro e w4 ⟨⟨v4, rfl⟩, l4⟩; have C4 := Lib.hid (C3.out.trans (l4.mono C3.out.size)); have S4 := Lib.hid (S3.out.below l4); clear l4 C3 S3; refine Hid.out ?_)
   refine Lib.hid ?_
   go_wp2_with (go_at_call 9; refine (HSS.out _ _ _ C4.out S4.out).mono ?_; rintro e w5 ⟨rfl, l5⟩; have C5 := Lib.hid (C4.out.trans (l5.mono C4.out.size)); clear l5 C4 S4; refine Hid.out ?_)
   refine Lib.hid ?_
   go_wp2
   go_ret
   exact ⟨rfl, HW.out _ C5.out⟩
  ·have hX : stB (addL ps p fr t) = true := st_add hA
   have hXW := add_wt hA hA0 HF.out.1.1 HF.out.1.2.2 HF.out.2.1.2.2 HF.out.2.2.1 HF.out.2.2.2
   obtain ⟨hX1, hX2⟩ := ait_again hA hA0
   obtain ⟨hX3, hX4⟩ := add_cut hA hA0
   have hX5 := st_ver hX
   rw [hC, hL] at HI1
   rw [hC] at HSA
   generalize addL ps p fr t = X at *
   have HXX : Hid ((stB X = true ∧ ty.wtIt X ≤ 700000) ∧ (aitC X p fr t = 1 ∧ aitL X p fr t = X) ∧ (wthB X [p] = true ∧ wthL X [p] = ps) ∧ verA X = []) := ⟨⟨hX, hXW⟩, ⟨hX1, hX2⟩, ⟨hX3, hX4⟩, hX5⟩
   clear hX hXW hX1 hX2 hX3 hX4 hX5 hA hA0 hC hL
   have hsm : ∀ xs : List ty.It, ty.wtIt xs ≤ 700000 → xs.length ≤ 1048576 ∧ ∀ x ∈ xs, x.fRefs.length ≤ 1048576 ∧ x.fTree.length ≤ 1048576 := fun xs h2 => ⟨by have := ty.wtIt_len xs; omega, fun x hx => by
     have h1 := ty.wtIt_mem hx
     have h3 := ty.wtS_len x.fRefs
     have h4 := ty.wtEt_len x.fTree
     unfold ty.wt1It at h1
     omega⟩
   have HSS : Hid (∀ W g' c', Below w1.heap.size w1 W → ty.SrcIt none W (some ⟨g', 0, none⟩) ps → Calls Tryz.prog 9 #[.slice (some ⟨g', 0, none⟩) ps.length c', .slice (some ⟨g, 0, none⟩) ps.length cc] W fun e w' => e = .returned (.bool true) ∧ Below W.heap.size W w') := fun W g' c' h hs =>
    sameSt_any _ _ c' cc ps W hs (HST.out W h).1.any (hsm ps (Nat.le_trans HF.out.1.2.2 (by decide))).1 (hsm ps (Nat.le_trans HF.out.1.2.2 (by decide))).2
   have HSX : Hid (∀ W g1 c1 g' c', ty.SrcIt none W (some ⟨g1, 0, none⟩) X → ty.SrcIt none W (some ⟨g', 0, none⟩) X → Calls Tryz.prog 9 #[.slice (some ⟨g1, 0, none⟩) X.length c1, .slice (some ⟨g', 0, none⟩) X.length c'] W fun e w' => e = .returned (.bool true) ∧ Below W.heap.size W w') := fun W g1 c1 g' c' h hs =>
    sameSt_any _ _ c1 c' X W h hs (hsm X HXX.out.1.2).1 (hsm X HXX.out.1.2).2
   have HA2 : Hid (∀ W lo g' c', Below w1.heap.size w1 W → ty.SrcIt (some lo) W (some ⟨g', 0, none⟩) X → X.length ≤ c' → Calls Tryz.prog 7 #[.slice (some ⟨g', 0, none⟩) X.length c', .string p, .slice (some ⟨tb, 0, none⟩) t.length tc, .string fr] W fun e w' => (∃ g' c', e = .returned (.tuple #[.slice (some ⟨g', 0, none⟩) X.length c', .int .i64 1]) ∧ ty.SrcIt none w' (some ⟨g', 0, none⟩) X) ∧ Below W.heap.size W w') := fun W lo g' c' h hs hc => by
    have h1 := HAI.out W lo _ c' X h hs hc HXX.out.1.2
    rw [HXX.out.2.1.1, HXX.out.2.1.2] at h1
    refine h1.mono ?_
    rintro e w' ⟨⟨g'', c'', rfl, _, q⟩, hl⟩
    exact ⟨⟨g'', c'', rfl, q.any⟩, hl⟩
   have HWI : Hid (∀ W lo g' c', Below w1.heap.size w1 W → ty.SrcIt (some lo) W (some ⟨g', 0, none⟩) X → Calls Tryz.prog 10 #[.slice (some ⟨g', 0, none⟩) X.length c', .slice (some ⟨W.heap.size, 0, none⟩) 1 1] (W.alloc (.cells #[.string p] 9)) fun e w' => (∃ g' c', e = .returned (.tuple #[.slice (some ⟨g', 0, none⟩) ps.length c', .bool true]) ∧ ty.SrcIt none w' (some ⟨g', 0, none⟩) ps) ∧ Below W.heap.size W w') := fun W lo g' c' h hs => by
    have h1 : Below W.heap.size W (W.alloc (.cells #[.string p] 9)) := (Below.refl _ _).alloc (Nat.le_refl _) _
    have h2 : Below w1.heap.size w1 (W.alloc (.cells #[.string p] 9)) := h.trans (h1.mono h.size)
    have hp := HF.out.2.2.1
    have hr := World.rowIs_alloc W #[Value.string p] 9 (fun _ => .string p) (fun i hi => by
     have : i = 0 := by simpa using hi
     subst this
     rfl)
    have hq : ty.SrcS (some W.heap.size) (W.alloc (.cells #[.string p] 9)) (some ⟨W.heap.size, 0, none⟩) [p] := .inr ⟨_, 0, rfl, okb_row hr (Nat.le_refl _), fun i x hx => by
     rcases i with _ | i
     ·cases hx
      exact hr.cell (i := 0) (by simp)
     ·simp at hx⟩
    have h3 := iwth_any lo W.heap.size (some ⟨g', 0, none⟩) (some ⟨W.heap.size, 0, none⟩) c' X [p] _ (hs.below h1) (Nat.le_trans HXX.out.1.2 (by decide)) hq (by rw [wtS_sum]; simp; omega) (HM.out _ (HW.out _ h2)) (HT.out _ (HW.out _ h2))
    rw [HXX.out.2.2.1.1, HXX.out.2.2.1.2] at h3
    refine h3.mono ?_
    rintro e w' ⟨⟨v, rfl, gz, cz, rfl, hz⟩, hl⟩
    exact ⟨⟨gz, cz, rfl, hz.src⟩, h1.trans (hl.mono h1.size)⟩
   have HSO : Hid (∀ W lo g' c', ty.SrcIt (some lo) W (some ⟨g', 0, none⟩) X → Calls Tryz.prog 11 #[.slice (some ⟨g', 0, none⟩) X.length c'] W fun e w' => e = .returned (.bool true) ∧ Below W.heap.size W w') := fun W lo g' c' hs => by
    have h1 := sstore_any lo (some ⟨g', 0, none⟩) c' X W hs (Nat.le_trans HXX.out.1.2 (by decide))
    rw [HXX.out.1.1] at h1
    exact h1
   have HVE : Hid (∀ W lo g' c', Below w1.heap.size w1 W → ty.SrcIt (some lo) W (some ⟨g', 0, none⟩) X → Calls Tryz.prog 12 #[.slice (some ⟨g', 0, none⟩) X.length c'] W fun e w' => (∃ gv cv, e = .returned (.slice (some ⟨gv, 0, none⟩) 0 cv)) ∧ Below W.heap.size W w') := fun W lo g' c' h hs => by
    have h1 := iver_any lo (some ⟨g', 0, none⟩) c' X W hs (Nat.le_trans HXX.out.1.2 (by decide)) (HM.out W (HW.out W h)) (HT.out W (HW.out W h))
    rw [HXX.out.2.2.2] at h1
    refine h1.mono ?_
    rintro e w' ⟨⟨v, rfl, hv⟩, hl⟩
    rcases hv.1.2 with ⟨h3, _⟩ | ⟨gv, cv, cur, rfl, _⟩
    ·exact absurd h3 hv.2
    ·exact ⟨⟨gv, cv, rfl⟩, hl⟩
   clear hsm
   obtain ⟨pl, hpl⟩ : ∃ l, ps.length = l := ⟨_, rfl⟩
   rw [hpl] at HI1 HSA HSS HWI ⊢
   obtain ⟨xl, hxl⟩ : ∃ l, X.length = l := ⟨_, rfl⟩
   rw [hxl] at HI1 HSX HWI HSO HVE HA2
   clear hpl hxl HAI HXX HF
   generalize t.length = tl at *
   go_wp2_with (go_at_call 7; refine HI1.out.mono ?_; rintro e w2 ⟨⟨g2, c2, rfl, hc2, hs2⟩, l2⟩; have C2 := Lib.hid l2; have S2 := Lib.hid hs2; have HC2 := Lib.hid hc2; clear l2 hs2 hc2 HI1; refine Hid.out ?_)
   refine Lib.hid ?_
   go_wp2_with (go_at_call 7; refine (HLV.out _ (HW.out _ C2.out)).mono ?_; rintro e w3 ⟨⟨v3, rfl⟩, l3⟩; have C3 := Lib.hid (C2.out.trans (l3.mono C2.out.size)); have S3 := Lib.hid (S2.out.below l3); clear l3 C2 S2 HLV; refine Hid.out ?_)
   refine Lib.hid ?_
   go_wp2_with (go_at_call 8; refine (HSA.out _ C3.out).mono ?_; rintro e w4 ⟨⟨v4, rfl⟩, l4⟩; have C4 := Lib.hid (C3.out.trans (l4.mono C3.out.size)); have S4 := Lib.hid (S3.out.below l4); clear l4 C3 S3 HSA; refine Hid.out ?_)
   refine Lib.hid ?_
   go_wp2_with (go_at_call 7; refine (HA2.out _ _ _ _ C4.out S4.out HC2.out).mono ?_; rintro e w5 ⟨⟨g5, c5, rfl, hs5⟩, l5⟩; have C5 := Lib.hid (C4.out.trans (l5.mono C4.out.size)); have S5 := Lib.hid (S4.out.below l5); have Y5 := Lib.hid hs5; clear l5 C4 S4 hs5 HA2 HC2; refine Hid.out ?_)
   refine Lib.hid ?_
   go_wp2_with (go_at_call 10; refine (HWI.out _ _ _ _ C5.out S5.out).mono ?_; rintro e w6 ⟨⟨g6, c6, rfl, hs6⟩, l6⟩; have C6 := Lib.hid (C5.out.trans (l6.mono C5.out.size)); have S6 := Lib.hid (S5.out.below l6); have Y6 := Lib.hid (Y5.out.below l6); have Z6 := Lib.hid hs6; clear l6 C5 S5 Y5 hs6 HWI; refine Hid.out ?_)
   refine Lib.hid ?_
   go_wp2_with (go_at_call 11; refine (HSO.out _ _ _ _ S6.out).mono ?_; rintro e w7 ⟨rfl, l7⟩; have C7 := Lib.hid (C6.out.trans (l7.mono C6.out.size)); have S7 := Lib.hid (S6.out.below l7); have Y7 := Lib.hid (Y6.out.below l7); have Z7 := Lib.hid (Z6.out.below l7); clear l7 C6 S6 Y6 Z6 HSO; refine Hid.out ?_)
   refine Lib.hid ?_
   go_wp2_with (go_at_call 9; refine (HSX.out _ _ _ _ _ S7.out.any Y7.out).mono ?_; rintro e w8 ⟨rfl, l8⟩; have C8 := Lib.hid (C7.out.trans (l8.mono C7.out.size)); have S8 := Lib.hid (S7.out.below l8); have Z8 := Lib.hid (Z7.out.below l8); clear l8 C7 S7 Y7 Z7 HSX; refine Hid.out ?_)
   refine Lib.hid ?_
   go_wp2_with (go_at_call 9; refine (HSS.out _ _ _ C8.out Z8.out).mono ?_; rintro e w9 ⟨rfl, l9⟩; have C9 := Lib.hid (C8.out.trans (l9.mono C8.out.size)); have S9 := Lib.hid (S8.out.below l9); clear l9 C8 S8 Z8 HSS; refine Hid.out ?_)
   refine Lib.hid ?_
   go_wp2_with (go_at_call 12; refine (HVE.out _ _ _ _ C9.out S9.out).mono ?_; rintro e w10 ⟨⟨gv, cv, rfl⟩, l10⟩; have C10 := Lib.hid (C9.out.trans (l10.mono C9.out.size)); clear l10 C9 S9 HVE; refine Hid.out ?_)
   refine Lib.hid ?_
   go_wp2
   go_ret
   exact ⟨rfl, HW.out _ C10.out⟩
 ·have hn' : (1048576 : Int) < (n : Int) := by omega
  have hd' : decide (1048576 < (n : Int)) = true := by simpa using hn'
  clear hb hlt hT hm
  go_enter Tryz.func3, Tryz.ntmps3
  go_wp2_with (go_at_call 5; refine (big_any _ _ _ _).mono ?_; rintro e w' ⟨rfl, hw⟩; have hw2 := hw.symm; subst hw2; clear hw; rw [hd'])
  go_ret
  exact ⟨rfl, Below.refl _ _⟩
end Go.Proofs.YtcpmgellfaeejaaGreatDoor.so

namespace Go.Proofs.YtcpmgellfaeejaaGreatDoor.lt
open Go.ChangeShapes Go.WideShapes Go.ChangeAt Go.RowKit Go.Deep
set_option linter.unusedVariables false
theorem laid_skip {P : Program} {W : World} {x : String × DataW Unit} {rest : List (String × DataW Unit)} {ps : List MemPlace} (h : DataW.LaidVars P W (x :: rest) ps) : ∃ q, DataW.LaidVars P W rest q := by
 obtain ⟨g, t, cs, fuel, p, q, _, _, _, _, hr, _⟩ := h
 exact ⟨q, hr⟩
theorem laid_tab {P : Program} {W : World} {name : String} {k : IntKind} {zs : List Int} {rest : List (String × DataW Unit)} {ps : List MemPlace} {g : Nat} {t e : TypeId} {n : Nat}
  (hg : P.globalNamed name = some g) (hty : (P.globals[g]?).map (·.type) = some t) (ht : P.underlying t = some (.array n e)) (he : P.underlying e = some (.int k)) (hce : P.cellsOf e = 1) (hct : P.cellsOf t = n)
  (h : DataW.LaidVars P W ((name, Lib.tabData k zs) :: rest) ps) : Lib.TabIs P W name k zs := by
 obtain ⟨g', t', cs, fuel, p, q, hg', ht', hvar, hd, _, _⟩ := h
 obtain rfl := Option.some.inj (hg.symm.trans hg')
 obtain rfl := Option.some.inj (hty.symm.trans ht')
 unfold Lib.TabIs
 rw [hvar, ← Lib.cells_of_tab ht he hce hct hd]
def letZ : List Int := [48, 49, 50, 51, 52, 53, 54, 55, 56, 57, 97, 98, 99, 100, 102, 103, 104, 105, 106, 107, 108, 109, 110, 112, 113, 114, 115, 118, 119, 120, 121, 122]
theorem gLet : Tryz.prog.globalNamed "loop.example/g00023/impl.wordLetters" = some 0 := by kernel_rfl
theorem gLetType : (Tryz.prog.globals[0]?).map (·.type) = some 115 := by kernel_rfl
theorem cLet : Tryz.prog.cellsOf 115 = 32 := by kernel_rfl
theorem cLetE : Tryz.prog.cellsOf 5 = 1 := by kernel_rfl
theorem let_of {W : World} {ps : List MemPlace} {rest : List (String × DataW Unit)} (h : DataW.LaidVars Tryz.prog W (("loop.example/g00023/impl.wordLetters", Lib.tabData .u8 letZ) :: rest) ps) : Lib.TabIs Tryz.prog W "loop.example/g00023/impl.wordLetters" .u8 letZ :=
 laid_tab gLet gLetType Tryz.underlying115 Tryz.underlying5 cLetE cLet h
theorem tabB_of {W : World} (h : Lib.TabIs Tryz.prog W "loop.example/g00023/impl.wordLetters" .u8 letZ) : wd.TabB W := by
 unfold Lib.TabIs World.var? at h
 rw [gLet] at h
 simp only [Option.bind_some] at h
 split at h
 ·rename_i cs t fr hb
  rw [Option.some.injEq] at h
  subst h
  exact ⟨t, fr, hb⟩
 ·cases h
end Go.Proofs.YtcpmgellfaeejaaGreatDoor.lt
