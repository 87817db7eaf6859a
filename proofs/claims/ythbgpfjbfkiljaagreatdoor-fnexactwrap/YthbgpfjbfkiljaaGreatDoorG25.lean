import Derived.Test.YthbgpfjbfkiljaaGreatDoorG01
import Derived.Test.YthbgpfjbfkiljaaGreatDoorG05
import Derived.BigQuiet
set_option linter.unusedVariables false
set_option linter.unusedSimpArgs false
set_option maxRecDepth 100000
set_option maxHeartbeats 16000000
namespace Go.Proofs.YthbgpfjbfkiljaaGreatDoor.tt
open Go.ChangeShapes Go.WideShapes Go.ChangeAt Go.RowKit Go.Deep
theorem pt_lt {E : Nat → En} {n a k : Nat} {e : En} (h : k < a) : ptF E n e a k = E k := by unfold ptF; rw [if_pos h]
theorem pt_at (E : Nat → En) (n a : Nat) (e : En) : ptF E n e a a = e := by unfold ptF; rw [if_neg (by omega), if_pos rfl]
theorem pt_gt {E : Nat → En} {n a k : Nat} {e : En} (h : a < k) : ptF E n e a k = if isB E n e.path.data.toList a = true then E k else E (k - 1) := by unfold ptF; rw [if_neg (by omega), if_neg (by omega)]
def KF (E : Nat → En) (n : Nat) (e : En) : Prop := e.kind = 1 ∨ ¬ Full E n e.path.data.toList
theorem bel_dn2 (w : World) (p q : Nat) : Below w.heap.size w ((w.drewN p).drewN q) := ⟨rfl, rfl, rfl, Nat.le_refl _, fun _ _ => rfl⟩
theorem bel_dn (w : World) (q : Nat) : Below w.heap.size w (w.drewN q) := ⟨rfl, rfl, rfl, Nat.le_refl _, fun _ _ => rfl⟩
def cnt (th : Bool) (a i : Nat) : Nat := if a < i then (if th = true then i else i + 1) else i
theorem cnt_le (th : Bool) (a i : Nat) : cnt th a i ≤ i + 1 := by unfold cnt; split <;> (try split) <;> omega
theorem up_emp {U : ByteArray} {l : List UInt8} (h : U = ⟨l.toArray⟩) : U.toList.isEmpty = true ↔ l = [] := by
 subst h
 rw [ByteArray.toList_eq]
 simp
theorem sl10put_any (E : Nat → En) (b n cp a : Nat) (hcp : n ≤ cp) (P d : ByteArray) (k : Int) (x : Bool) (w : World) (hR : EnR w b 0 n E) (hS : SmE n E) (hT : treeB E n = true) (hPs : P.size ≤ 1048576) (hds : d.size ≤ 1048576) (ha : Rk E n P.data.toList a) :
  Calls Tryz.prog 51 #[.slice (some ⟨b, 0, none⟩) n cp, .agg #[.string P, .int .i64 k, .string d, .bool x]] w fun r w' => (∃ v, r = .returned (.tuple #[v, .bool (tkB E n ⟨P, k, d, x⟩ a)]) ∧ RowE w.heap.size w' v (if tkB E n ⟨P, k, d, x⟩ a = true then ptN E n ⟨P, k, d, x⟩ a else n) (puF E n ⟨P, k, d, x⟩ a)) ∧ Below w.heap.size w w' := by
 obtain ⟨hn5, hTr⟩ := treeB_is hT
 have HTR : Hid (Tr E n) := hTr
 have HAS : Hid (Asc E n) := hTr.asc
 have HRK : Hid (Rk E n P.data.toList a) := ha
 have han := ha.le
 obtain ⟨w1, hw1⟩ : ∃ W, W = w.alloc (.cells #[.string P, .int .i64 k, .string d, .bool x] 62) := ⟨_, rfl⟩
 obtain ⟨eb, heb⟩ : ∃ eb, eb = w.heap.size := ⟨_, rfl⟩
 have HX1 : Hid (BxE w1 eb P d k x) := by rw [hw1, heb]; exact bxE_new _ _ _ _ _ _
 have HB1 : Hid (Below w.heap.size w w1) := by rw [hw1]; exact (Below.refl _ _).alloc (Nat.le_refl _) _
 have HX : Hid (∀ W, Below w1.heap.size w1 W → BxE W eb P d k x) := fun W hW => HX1.out.below hW
 have HUP : Hid (∀ W, Below w1.heap.size w1 W → Below w.heap.size w W) := fun W hW => HB1.out.trans (hW.mono HB1.out.size)
 have HRD : Hid (∀ W, Below w1.heap.size w1 W → EnR W b 0 n E) := fun W hW => hR.below (HUP.out W hW)
 obtain ⟨U, hU⟩ : ∃ U : ByteArray, U = ⟨(up P.data.toList).toArray⟩ := ⟨_, rfl⟩
 have HUL : Hid (U.data.toList = up P.data.toList) := by rw [hU]; show _ = _; rfl
 have HUE : Hid (U.toList.isEmpty = true ↔ up P.data.toList = []) := up_emp hU
 have HCU : Hid (Calls Tryz.prog 81 #[.string P] w1 fun e w' => e = .returned (.string U) ∧ Below w1.heap.size w1 w') := by rw [hU]; exact up_any P hPs w1
 have HCE : Hid (∀ W, Calls Tryz.prog 82 #[.agg #[.string P, .int .i64 k, .string d, .bool x]] W fun r w' => r = .returned (.bool (eOk ⟨P, k, d, x⟩)) ∧ Below W.heap.size W w') := fun W => entry_any ⟨P, k, d, x⟩ hPs hds W
 have HCD : Hid (∀ W, Below w1.heap.size w1 W → Calls Tryz.prog 83 #[.slice (some ⟨b, 0, none⟩) n cp, .string U] W fun e w' => e = .returned (.bool (dirB E n (up P.data.toList))) ∧ Below W.heap.size W w') := fun W hW => by
  have := dir_any E b 0 n cp U W (HRD.out W hW) HAS.out (by omega) hcp
  rw [HUL.out] at this
  exact this
 have HCF : Hid (∀ W, Below w1.heap.size w1 W → Calls Tryz.prog 84 #[.slice (some ⟨b, 0, none⟩) n cp, .string P] W fun e w' => e = .returned (.bool (fullB E n P.data.toList)) ∧ w' = W) := fun W hW => full_any E b 0 n cp P W (HRD.out W hW) hS (by omega) hPs
 have HCC : Hid (∀ W, Below w1.heap.size w1 W → Calls Tryz.prog 85 #[.slice (some ⟨b, 0, none⟩) n cp] W fun e w' => (∃ v, e = .returned v ∧ w'.ownsRow W.heap.size 62 4 v n (enC E n) ∧ v ≠ .slice none 0 0) ∧ Below W.heap.size W w') := fun W hW => copy_any E b 0 n cp W (HRD.out W hW) (by omega)
 obtain ⟨tk, htk⟩ : ∃ r, tkB E n ⟨P, k, d, x⟩ a = r := ⟨_, rfl⟩
 have HTK : Hid (tkB E n ⟨P, k, d, x⟩ a = tk) := htk
 obtain ⟨RN, hRN⟩ : ∃ RN, (if tkB E n ⟨P, k, d, x⟩ a = true then ptN E n ⟨P, k, d, x⟩ a else n) = RN := ⟨_, rfl⟩
 obtain ⟨RF, hRF⟩ : ∃ RF, puF E n ⟨P, k, d, x⟩ a = RF := ⟨_, rfl⟩
 have HNO : Hid (tkB E n ⟨P, k, d, x⟩ a = false → tk = false ∧ RN = n ∧ RF = E) := fun h => ⟨htk.symm.trans h, by rw [← hRN, if_neg (by rw [h]; decide)], by rw [← hRF]; unfold puF; rw [if_neg (by rw [h]; decide)]⟩
 have HYES : Hid (tkB E n ⟨P, k, d, x⟩ a = true → tk = true ∧ RN = ptN E n ⟨P, k, d, x⟩ a ∧ RF = ptF E n ⟨P, k, d, x⟩ a) := fun h => ⟨htk.symm.trans h, by rw [← hRN, if_pos h], by rw [← hRF]; unfold puF; rw [if_pos h]⟩
 rw [hRN, hRF, htk]
 clear htk hRN hRF hU hR hS hT hTr ha
 go_enter Tryz.func51, Tryz.ntmps51
 go_upto_region 1 with fail
 rw [← hw1, ← heb]
 clear hw1 heb
 obtain ⟨x0, x1, x2, x3⟩ := HX1.out
 go_wp2_with (first
  | (go_at_call 81; refine HCU.out.mono ?_; rintro e w2 ⟨rfl, hl2⟩; have HB2 : Hid (Below w1.heap.size w1 w2) := hl2; obtain ⟨y0, y1, y2, y3⟩ := HX.out _ hl2; refine Hid.out ?_))
 refine Lib.hid ?_
 clear x0 x1 x2 x3
 cases heo : eOk ⟨P, k, d, x⟩ with
 | false =>
  rw [heo] at HCE
  obtain ⟨e1, e2, e3⟩ := HNO.out (tkB_no fun h => by have h1 := h.1; rw [heo] at h1; cases h1)
  subst e1 e2 e3
  clear heo
  go_wp2_with (first
   | (go_at_call 82; refine (HCE.out _).mono ?_; rintro e w3 ⟨rfl, hl3⟩; have hb3 : Below w1.heap.size w1 w3 := HB2.out.trans (hl3.mono HB2.out.size); obtain ⟨z0, z1, -, -⟩ := HX.out _ hb3)
   | (go_at_call 85; refine (HCC.out _ hb3).mono ?_; rintro e w9 ⟨⟨v9, rfl, hown9, hv9⟩, hl9⟩; have HR9 : Hid (RowE w3.heap.size w9 v9 RN RF) := own_rowE hown9 hv9; have HB9 : Hid (Below w1.heap.size w1 w9) := hb3.trans (hl9.mono hb3.size); clear hown9 hv9))
  go_ret2
  exact ⟨⟨_, rfl, rowE_mono HR9.out (HUP.out _ hb3).size⟩, HUP.out _ HB9.out⟩
 | true =>
  rw [heo] at HCE
  have HEO : Hid (eOk ⟨P, k, d, x⟩ = true) := heo
  clear heo
  cases hue : U.toList.isEmpty with
  | true =>
   have HUD : Hid (up P.data.toList ≠ [] → Dir E n (up P.data.toList)) := fun h => absurd (HUE.out.1 hue) h
   by_cases hk : k = 1
   ·subst hk
    have HKF : Hid (KF E n ⟨P, 1, d, x⟩) := Or.inl rfl
    go_wp2_with (first
     | (go_at_call 82; refine (HCE.out _).mono ?_; rintro e w3 ⟨rfl, hl3⟩; have hb3 : Below w1.heap.size w1 w3 := HB2.out.trans (hl3.mono HB2.out.size); obtain ⟨z0, z1, -, -⟩ := HX.out _ hb3; have HB3 : Hid (Below w1.heap.size w1 w3) := hb3; refine Hid.out ?_))
    refine Lib.hid ?_
    clear hl2 hl3 hb3 y0 y1 y2 y3
    obtain ⟨th, hth⟩ : ∃ th, isB E n P.data.toList a = th := ⟨_, rfl⟩
    have HTH : Hid (th = true ↔ Is E n P.data.toList a) := by rw [← hth]; exact isB_iff
    obtain ⟨F, hF⟩ : ∃ F, ptF E n ⟨P, 1, d, x⟩ a = F := ⟨_, rfl⟩
    have HFF : Hid (ptF E n ⟨P, 1, d, x⟩ a = F) := hF
    have HFL : Hid (∀ j, j < a → F j = E j) := fun j hj => by rw [← hF]; exact pt_lt hj
    have HFA : Hid (F a = ⟨P, 1, d, x⟩) := by rw [← hF]; exact pt_at E n a _
    have HFG : Hid (∀ j, a < j → F j = if th = true then E j else E (j - 1)) := fun j hj => by rw [← hF, ← hth]; exact pt_gt hj
    have HPN : Hid (ptN E n ⟨P, 1, d, x⟩ a = if th = true then n else n + 1) := by rw [← hth]; show _ = _; rfl
    obtain ⟨bs, hbs⟩ : ∃ bs, bs = w3.heap.size := ⟨_, rfl⟩
    have HO0 : Hid ((w3.alloc (.cells #[] 62)).ownsRow bs 62 4 (.slice (some ⟨w3.heap.size, 0, none⟩) 0 0) 0 (enC F 0)) := by rw [hbs]; exact made_own w3 0 (by omega) #[] rfl
    have HBA0 : Hid (Below w1.heap.size w1 (w3.alloc (.cells #[] 62))) := HB3.out.alloc HB3.out.size _
    have HS0 : Hid (bs ≤ (w3.alloc (.cells #[] 62)).heap.size) := by show _ ≤ _; rw [World.size_alloc]; omega
    have HWB : Hid (w1.heap.size ≤ bs) := by rw [hbs]; exact HB3.out.size
    clear hF hth hbs
    go_wp2
    clear z0 z1
    go_loopw [7, 8, 9] (fun v dn x wr => ∃ (i : Nat) (db : Bool), i ≤ n ∧ x = .int .i64 (i : Int) ∧ dn = .bool db ∧ db = decide (a < i) ∧ wr.ownsRow bs 62 4 v (cnt th a i) (enC F (cnt th a i)) ∧ v ≠ .slice none 0 0 ∧ Below w1.heap.size w1 wr ∧ bs ≤ wr.heap.size) (fun _ _ x _ => n - (intOf x).toNat)
    case atStart => exact ⟨0, false, Nat.zero_le _, rfl, rfl, by simp, by simpa [cnt] using HO0.out, (by intro e; cases e), HBA0.out, HS0.out⟩
    case round =>
     obtain ⟨i, db, hi, rfl, rfl, hdb, hown, hvn, hbel, hbsw⟩ := hrel
     obtain ⟨at7, cp7, hv7⟩ := own_shape hown
     obtain ⟨c, hc⟩ : ∃ c, cnt th a i = c := ⟨_, rfl⟩
     rw [hc] at hown hv7
     subst hv7
     have HOW : Hid (wr.ownsRow bs 62 4 (.slice at7 c cp7) c (enC F c)) := hown
     have HNN : Hid (Value.slice at7 c cp7 ≠ .slice none 0 0) := hvn
     have HBE : Hid (Below w1.heap.size w1 wr) := hbel
     have HCN : Hid (cnt th a i = c) := hc
     have hcb : c ≤ 1000 := by have := cnt_le th a i; omega
     obtain ⟨q0, q1, q2, q3⟩ := HX.out _ hbel
     clear hown hvn hbel hc
     by_cases hin : i < n
     ·have hin' : (i : Int) < (n : Int) := by omega
      have hi0 : (0 : Int) ≤ (i : Int) := by omega
      obtain ⟨c0, c1, c2, c3⟩ := HRD.out _ HBE.out i hin
      rw [Nat.zero_add] at c0 c1 c2 c3
      have HCI0 : Hid (∀ W, Below w1.heap.size w1 W → N4 W b (i * 4) (E i)) := fun W hW => by have := HRD.out W hW i hin; rwa [Nat.zero_add] at this
      have HPM : Hid (pth E i = (E i).path.data.toList) := rfl
      obtain ⟨e1, he1⟩ : ∃ e1, E i = e1 := ⟨_, rfl⟩
      have HEI : Hid (E i = e1) := he1
      rw [he1] at c0 c1 c2 c3 HPM HCI0
      clear he1
      obtain ⟨M, kM, dM, xM⟩ := e1
      simp only at c0 c1 c2 c3 HPM
      have HCI : Hid (∀ W, Below w1.heap.size w1 W → W.cell? ⟨b, i * 4, none⟩ = some (.string M) ∧ W.cell? ⟨b, i * 4 + 1, none⟩ = some (.int .i64 kM) ∧ W.cell? ⟨b, i * 4 + 2, none⟩ = some (.string dM) ∧ W.cell? ⟨b, i * 4 + 3, none⟩ = some (.bool xM)) := HCI0
      clear HCI0
      rcases Nat.lt_trichotomy i a with hia | hia | hia
      ·have hdf : db = false := hdb.trans (decide_eq_false (by omega))
       clear hdb
       subst hdf
       have hbl : Op.bytesLess M.toList P.toList = true := bl_yes (by rw [← HPM.out]; exact HRK.out.lo i hia)
       have heq : (M.toList == P.toList) = false := by
        rw [ByteArray.toList_eq, ByteArray.toList_eq, beq_eq_false_iff_ne]
        intro e
        exact absurd (HRK.out.lo i hia) (by rw [HPM.out, e]; exact List.lt_irrefl _)
       go_wp2_with fail
       go_quiet (fail)
       go_wp2_with fail
       go_quiet (fail)
       clear c0 c1 c2 c3 q0 q1 q2 q3
       generalize hwq : World.drewN (World.drewN wr _) _ = wq
       have HQ : Hid (Below wr.heap.size wr wq) := by rw [← hwq]; exact bel_dn2 _ _ _
       have hsq : wr.heap.size ≤ wq.heap.size := HQ.out.size
       clear hwq
       have HBwq : Hid (Below w1.heap.size w1 wq) := HBE.out.trans (HQ.out.mono HBE.out.size)
       have HOwq : Hid (wq.ownsRow bs 62 4 (.slice at7 c cp7) c (enC F c)) := own_below HOW.out HQ.out
       obtain ⟨c0, c1, c2, c3⟩ := HCI.out _ HBwq.out
       obtain ⟨q0, q1, q2, q3⟩ := HX.out _ HBwq.out
       have HFC : Hid (F c = ⟨M, kM, dM, xM⟩) := by
        have h1 : c = i := by rw [← HCN.out]; unfold cnt; rw [if_neg (by omega)]
        rw [h1]
        exact (HFL.out i hia).trans HEI.out
       have HOAw6 : Hid (∀ ob, (wq.alloc ob).ownsRow bs 62 4 (.slice at7 c cp7) c (enC F c)) := fun ob => own_below HOwq.out ((Below.refl _ _).alloc (Nat.le_refl _) _)
       have HBAw6 : Hid (∀ ob, Below w1.heap.size w1 (wq.alloc ob)) := fun ob => HBwq.out.alloc HBwq.out.size _
       have HSAw6 : Hid (∀ ob, bs ≤ (wq.alloc ob).heap.size) := fun ob => by rw [World.size_alloc]; omega
       have HCw6 : Hid (c ≤ 2000000) := by show _ ≤ _; omega
       have HNXw6 : Hid (enC F (c + 1) = enC F c ++ [.string M, .int .i64 kM, .string dM, .bool xM]) := by show _ = _; rw [enC_succ, HFC.out]
       go_wp2_with (first
        | (at_builtin; refine app_ent _ rfl _ _ rfl bs _ _ _ rfl (HOAw6.out _) HNN.out ⟨wq.heap.size, 0, none⟩ 1 (.string M) (.int .i64 kM) (.string dM) (.bool xM) rfl (four_at _ _ rfl _ _ _ _ _) (four_one M kM dM xM) HCw6.out (HSAw6.out _) ?_; intro v6 w6 hownw6 hvw6 hgw6; refine Hid.out ?_)
        | go_in)
       refine Lib.hid ?_
       have HBw6 : Hid (Below w1.heap.size w1 w6) := (HBAw6.out _).grown hgw6 (HBAw6.out _).size (fun q hq => Nat.le_trans HWB.out ((HOAw6.out (.cells #[.string M, .int .i64 kM, .string dM, .bool xM] 62)).lt q hq).1)
       have HOw6 : Hid (w6.ownsRow bs 62 4 v6 (c + 1) (enC F (c + 1))) := by rw [HNXw6.out]; exact hownw6
       have HVw6 : Hid (v6 ≠ .slice none 0 0) := hvw6
       have hsw6 : bs ≤ w6.heap.size := Nat.le_trans (HSAw6.out _) hgw6.size
       clear hownw6 hvw6 hgw6
       have HCT : Hid (cnt th a (i + 1) = c + 1) := by
        show _ = _
        rw [← HCN.out]
        unfold cnt
        rw [if_neg (by omega), if_neg (by omega)]
       clear c0 c1 c2 c3 q0 q1 q2 q3
       go_wp2
       go_roundw
       case rel => exact ⟨i + 1, false, by omega, by go_num, by first | rfl | trivial, (decide_eq_false (by omega)).symm, by rw [HCT.out]; exact HOw6.out, HVw6.out, HBw6.out, hsw6⟩
       case measure => simp [intOf] <;> omega
      ·subst hia
       have hdf : db = false := hdb.trans (decide_eq_false (by omega))
       clear hdb
       subst hdf
       have hbl : Op.bytesLess M.toList P.toList = false := bl_no (by rw [← HPM.out]; exact HRK.out.hi i (Nat.le_refl _) hin)
       go_wp2_with fail
       go_quiet (fail)
       clear c0 c1 c2 c3 q0 q1 q2 q3
       generalize hwq : World.drewN wr _ = wq
       have HQ : Hid (Below wr.heap.size wr wq) := by rw [← hwq]; exact bel_dn _ _
       have hsq : wr.heap.size ≤ wq.heap.size := HQ.out.size
       clear hwq
       have HBwq : Hid (Below w1.heap.size w1 wq) := HBE.out.trans (HQ.out.mono HBE.out.size)
       have HOwq : Hid (wq.ownsRow bs 62 4 (.slice at7 c cp7) c (enC F c)) := own_below HOW.out HQ.out
       obtain ⟨c0, c1, c2, c3⟩ := HCI.out _ HBwq.out
       obtain ⟨q0, q1, q2, q3⟩ := HX.out _ HBwq.out
       have HCA : Hid (c = i) := by show _ = _; rw [← HCN.out]; unfold cnt; rw [if_neg (by omega)]
       have HFC : Hid (F c = ⟨P, 1, d, x⟩) := by
        show _ = _
        rw [HCA.out, HFA.out]
       have HOAw5 : Hid (∀ ob, (wq.alloc ob).ownsRow bs 62 4 (.slice at7 c cp7) c (enC F c)) := fun ob => own_below HOwq.out ((Below.refl _ _).alloc (Nat.le_refl _) _)
       have HBAw5 : Hid (∀ ob, Below w1.heap.size w1 (wq.alloc ob)) := fun ob => HBwq.out.alloc HBwq.out.size _
       have HSAw5 : Hid (∀ ob, bs ≤ (wq.alloc ob).heap.size) := fun ob => by rw [World.size_alloc]; omega
       have HCw5 : Hid (c ≤ 2000000) := by show _ ≤ _; omega
       have HNXw5 : Hid (enC F (c + 1) = enC F c ++ [.string P, .int .i64 1, .string d, .bool x]) := by show _ = _; rw [enC_succ, HFC.out]
       go_wp2_with (first
        | (at_builtin; refine app_ent _ rfl _ _ rfl bs _ _ _ rfl (HOAw5.out _) HNN.out ⟨wq.heap.size, 0, none⟩ 1 (.string P) (.int .i64 1) (.string d) (.bool x) rfl (four_at _ _ rfl _ _ _ _ _) (four_one P 1 d x) HCw5.out (HSAw5.out _) ?_; intro v5 w5 hownw5 hvw5 hgw5; refine Hid.out ?_)
        | go_in)
       refine Lib.hid ?_
       have HBw5 : Hid (Below w1.heap.size w1 w5) := (HBAw5.out _).grown hgw5 (HBAw5.out _).size (fun q hq => Nat.le_trans HWB.out ((HOAw5.out (.cells #[.string P, .int .i64 1, .string d, .bool x] 62)).lt q hq).1)
       have HOw5 : Hid (w5.ownsRow bs 62 4 v5 (c + 1) (enC F (c + 1))) := by rw [HNXw5.out]; exact hownw5
       have HVw5 : Hid (v5 ≠ .slice none 0 0) := hvw5
       have hsw5 : bs ≤ w5.heap.size := Nat.le_trans (HSAw5.out _) hgw5.size
       clear hownw5 hvw5 hgw5
       clear c0 c1 c2 c3 q0 q1 q2 q3
       obtain ⟨c0, c1, c2, c3⟩ := HCI.out _ HBw5.out
       obtain ⟨q0, q1, q2, q3⟩ := HX.out _ HBw5.out
       obtain ⟨a5, cp5, hv5⟩ := own_shape HOw5.out
       subst hv5
       by_cases ht : M.data.toList = P.data.toList
       ·have heq : (M.toList == P.toList) = true := by rw [ByteArray.toList_eq, ByteArray.toList_eq]; simpa using ht
        have HT1 : Hid (th = true) := HTH.out.2 ⟨hin, HPM.out.trans ht⟩
        have HCT : Hid (cnt th i (i + 1) = c + 1) := by
         show _ = _
         rw [HCA.out]
         unfold cnt
         rw [if_pos (by omega), if_pos HT1.out]
        clear ht
        go_wp2_with fail
        go_quiet (fail)
        clear c0 c1 c2 c3 q0 q1 q2 q3
        generalize hwqz : World.drewN w5 _ = wz
        have HQz : Hid (Below w5.heap.size w5 wz) := by rw [← hwqz]; exact bel_dn _ _
        have hsqz : w5.heap.size ≤ wz.heap.size := HQz.out.size
        clear hwqz
        have HBwz : Hid (Below w1.heap.size w1 wz) := HBw5.out.trans (HQz.out.mono HBw5.out.size)
        have HOwz : Hid (wz.ownsRow bs 62 4 (.slice a5 (c + 1) cp5) (c + 1) (enC F (c + 1))) := own_below HOw5.out HQz.out
        go_wp2
        go_roundw
        case rel => exact ⟨i + 1, true, by omega, by go_num, by first | rfl | trivial, (decide_eq_true (by omega)).symm, by rw [HCT.out]; exact HOwz.out, HVw5.out, HBwz.out, by omega⟩
        case measure => simp [intOf] <;> omega
       ·have heq : (M.toList == P.toList) = false := by rw [ByteArray.toList_eq, ByteArray.toList_eq, beq_eq_false_iff_ne]; exact ht
        have HT0 : Hid (¬ th = true) := fun h => ht (HPM.out.symm.trans (HTH.out.1 h).2)
        have HCT : Hid (cnt th i (i + 1) = c + 1 + 1) := by
         show _ = _
         rw [HCA.out]
         unfold cnt
         rw [if_pos (by omega), if_neg HT0.out]
        have HFD : Hid (F (c + 1) = ⟨M, kM, dM, xM⟩) := by
         show _ = _
         rw [HFG.out (c + 1) (by have := HCA.out; omega), if_neg HT0.out, show c + 1 - 1 = c from rfl, HCA.out]
         exact HEI.out
        clear ht
        go_wp2_with fail
        go_quiet (fail)
        clear c0 c1 c2 c3 q0 q1 q2 q3
        generalize hwqz : World.drewN w5 _ = wz
        have HQz : Hid (Below w5.heap.size w5 wz) := by rw [← hwqz]; exact bel_dn _ _
        have hsqz : w5.heap.size ≤ wz.heap.size := HQz.out.size
        clear hwqz
        have HBwz : Hid (Below w1.heap.size w1 wz) := HBw5.out.trans (HQz.out.mono HBw5.out.size)
        have HOwz : Hid (wz.ownsRow bs 62 4 (.slice a5 (c + 1) cp5) (c + 1) (enC F (c + 1))) := own_below HOw5.out HQz.out
        obtain ⟨c0, c1, c2, c3⟩ := HCI.out _ HBwz.out
        obtain ⟨q0, q1, q2, q3⟩ := HX.out _ HBwz.out
        have HOAw6 : Hid (∀ ob, (wz.alloc ob).ownsRow bs 62 4 (.slice a5 (c + 1) cp5) (c + 1) (enC F (c + 1))) := fun ob => own_below HOwz.out ((Below.refl _ _).alloc (Nat.le_refl _) _)
        have HBAw6 : Hid (∀ ob, Below w1.heap.size w1 (wz.alloc ob)) := fun ob => HBwz.out.alloc HBwz.out.size _
        have HSAw6 : Hid (∀ ob, bs ≤ (wz.alloc ob).heap.size) := fun ob => by rw [World.size_alloc]; omega
        have HCw6 : Hid ((c + 1) ≤ 2000000) := by show _ ≤ _; omega
        have HNXw6 : Hid (enC F ((c + 1) + 1) = enC F (c + 1) ++ [.string M, .int .i64 kM, .string dM, .bool xM]) := by show _ = _; rw [enC_succ, HFD.out]
        go_wp2_with (first
         | (at_builtin; refine app_ent _ rfl _ _ rfl bs _ _ _ rfl (HOAw6.out _) HVw5.out ⟨wz.heap.size, 0, none⟩ 1 (.string M) (.int .i64 kM) (.string dM) (.bool xM) rfl (four_at _ _ rfl _ _ _ _ _) (four_one M kM dM xM) HCw6.out (HSAw6.out _) ?_; intro v6 w6 hownw6 hvw6 hgw6; refine Hid.out ?_)
         | go_in)
        refine Lib.hid ?_
        have HBw6 : Hid (Below w1.heap.size w1 w6) := (HBAw6.out _).grown hgw6 (HBAw6.out _).size (fun q hq => Nat.le_trans HWB.out ((HOAw6.out (.cells #[.string M, .int .i64 kM, .string dM, .bool xM] 62)).lt q hq).1)
        have HOw6 : Hid (w6.ownsRow bs 62 4 v6 ((c + 1) + 1) (enC F ((c + 1) + 1))) := by rw [HNXw6.out]; exact hownw6
        have HVw6 : Hid (v6 ≠ .slice none 0 0) := hvw6
        have hsw6 : bs ≤ w6.heap.size := Nat.le_trans (HSAw6.out _) hgw6.size
        clear hownw6 hvw6 hgw6
        clear c0 c1 c2 c3 q0 q1 q2 q3
        go_wp2
        go_roundw
        case rel => exact ⟨i + 1, true, by omega, by go_num, by first | rfl | trivial, (decide_eq_true (by omega)).symm, by rw [HCT.out]; exact HOw6.out, HVw6.out, HBw6.out, hsw6⟩
        case measure => simp [intOf] <;> omega
      ·have hdf : db = true := hdb.trans (decide_eq_true (by omega))
       clear hdb
       subst hdf
       have heq : (M.toList == P.toList) = false := by
        rw [ByteArray.toList_eq, ByteArray.toList_eq, beq_eq_false_iff_ne]
        intro e
        exact HRK.out.hi a (Nat.le_refl _) (by omega) (by have := HAS.out a i hia hin; rw [HPM.out, e] at this; exact this)
       go_wp2_with fail
       go_quiet (fail)
       go_wp2_with fail
       go_quiet (fail)
       clear c0 c1 c2 c3 q0 q1 q2 q3
       generalize hwq : World.drewN (World.drewN wr _) _ = wq
       have HQ : Hid (Below wr.heap.size wr wq) := by rw [← hwq]; exact bel_dn2 _ _ _
       have hsq : wr.heap.size ≤ wq.heap.size := HQ.out.size
       clear hwq
       have HBwq : Hid (Below w1.heap.size w1 wq) := HBE.out.trans (HQ.out.mono HBE.out.size)
       have HOwq : Hid (wq.ownsRow bs 62 4 (.slice at7 c cp7) c (enC F c)) := own_below HOW.out HQ.out
       obtain ⟨c0, c1, c2, c3⟩ := HCI.out _ HBwq.out
       obtain ⟨q0, q1, q2, q3⟩ := HX.out _ HBwq.out
       have HFC : Hid (F c = ⟨M, kM, dM, xM⟩) := by
        have hc := HCN.out
        unfold cnt at hc
        rw [if_pos hia] at hc
        have hac : a < c := by split at hc <;> omega
        show _ = _
        rw [HFG.out c hac]
        by_cases ht : th = true
        ·rw [if_pos ht] at hc ⊢
         rw [← hc]
         exact HEI.out
        ·rw [if_neg ht] at hc ⊢
         rw [← hc]
         exact HEI.out
       have HOAw6 : Hid (∀ ob, (wq.alloc ob).ownsRow bs 62 4 (.slice at7 c cp7) c (enC F c)) := fun ob => own_below HOwq.out ((Below.refl _ _).alloc (Nat.le_refl _) _)
       have HBAw6 : Hid (∀ ob, Below w1.heap.size w1 (wq.alloc ob)) := fun ob => HBwq.out.alloc HBwq.out.size _
       have HSAw6 : Hid (∀ ob, bs ≤ (wq.alloc ob).heap.size) := fun ob => by rw [World.size_alloc]; omega
       have HCw6 : Hid (c ≤ 2000000) := by show _ ≤ _; omega
       have HNXw6 : Hid (enC F (c + 1) = enC F c ++ [.string M, .int .i64 kM, .string dM, .bool xM]) := by show _ = _; rw [enC_succ, HFC.out]
       go_wp2_with (first
        | (at_builtin; refine app_ent _ rfl _ _ rfl bs _ _ _ rfl (HOAw6.out _) HNN.out ⟨wq.heap.size, 0, none⟩ 1 (.string M) (.int .i64 kM) (.string dM) (.bool xM) rfl (four_at _ _ rfl _ _ _ _ _) (four_one M kM dM xM) HCw6.out (HSAw6.out _) ?_; intro v6 w6 hownw6 hvw6 hgw6; refine Hid.out ?_)
        | go_in)
       refine Lib.hid ?_
       have HBw6 : Hid (Below w1.heap.size w1 w6) := (HBAw6.out _).grown hgw6 (HBAw6.out _).size (fun q hq => Nat.le_trans HWB.out ((HOAw6.out (.cells #[.string M, .int .i64 kM, .string dM, .bool xM] 62)).lt q hq).1)
       have HOw6 : Hid (w6.ownsRow bs 62 4 v6 (c + 1) (enC F (c + 1))) := by rw [HNXw6.out]; exact hownw6
       have HVw6 : Hid (v6 ≠ .slice none 0 0) := hvw6
       have hsw6 : bs ≤ w6.heap.size := Nat.le_trans (HSAw6.out _) hgw6.size
       clear hownw6 hvw6 hgw6
       have HCT : Hid (cnt th a (i + 1) = c + 1) := by
        show _ = _
        rw [← HCN.out]
        unfold cnt
        rw [if_pos (by omega), if_pos hia]
        split <;> omega
       clear c0 c1 c2 c3 q0 q1 q2 q3
       go_wp2
       go_roundw
       case rel => exact ⟨i + 1, true, by omega, by go_num, by first | rfl | trivial, (decide_eq_true (by omega)).symm, by rw [HCT.out]; exact HOw6.out, HVw6.out, HBw6.out, hsw6⟩
       case measure => simp [intOf] <;> omega
     ·have HIN : Hid (i = n) := by show _ = _; omega
      have hin' : ¬ (i : Int) < (n : Int) := by omega
      by_cases haln : a < n
      ·have hdf : db = true := hdb.trans (decide_eq_true (by have := HIN.out; omega))
       clear hdb
       subst hdf
       have HCP : Hid (c = ptN E n ⟨P, 1, d, x⟩ a) := by
        show _ = _
        rw [HPN.out, ← HCN.out, HIN.out]
        unfold cnt
        rw [if_pos haln]
       have hbb : c ≤ 1001 := by omega
       by_cases hbig : 500 < c
       ·have hbig' : (500 : Int) < ((c : Nat) : Int) := by omega
        obtain ⟨e1, e2, e3⟩ := HNO.out (tkB_no fun h => by
         have h4 := h.2.2.2
         have hcp := HCP.out
         rw [HPN.out] at hcp
         rcases h4 with h4 | h4
         ·rw [if_pos (HTH.out.2 h4)] at hcp; omega
         ·split at hcp <;> omega)
        subst e1 e2 e3
        go_wp2_with (go_at_call 85; refine (HCC.out _ HBE.out).mono ?_; rintro e w9 ⟨⟨v9, rfl, hown9, hv9⟩, hl9⟩; have HR9 : Hid (RowE wr.heap.size w9 v9 RN RF) := own_rowE hown9 hv9; have HB9 : Hid (Below w1.heap.size w1 w9) := HBE.out.trans (hl9.mono HBE.out.size); clear hown9 hv9)
        go_ret2
        exact ⟨⟨_, rfl, rowE_mono HR9.out (HUP.out _ HBE.out).size⟩, HUP.out _ HB9.out⟩
       ·have hbig' : ¬ (500 : Int) < ((c : Nat) : Int) := by omega
        obtain ⟨e1, e2, e3⟩ := HYES.out (tkB_yes ⟨HEO.out, HUD.out, HKF.out, by
         have hcp := HCP.out
         rw [HPN.out] at hcp
         by_cases ht : th = true
         ·exact .inl (HTH.out.1 ht)
         ·rw [if_neg ht] at hcp
          exact .inr (by omega)⟩)
        have HRW : Hid (RowE bs wr (.slice at7 c cp7) RN RF) := by
         have h := own_rowE HOW.out HNN.out
         rw [e2.trans HCP.out.symm, e3, HFF.out]
         exact h
        clear e2 e3
        subst e1
        have HWW : Hid (w.heap.size ≤ bs) := Nat.le_trans HB1.out.size HWB.out
        go_wp2
        go_ret2
        exact ⟨⟨_, rfl, rowE_mono HRW.out HWW.out⟩, HUP.out _ HBE.out⟩
      ·have hdf : db = false := hdb.trans (decide_eq_false (by have := HIN.out; omega))
       clear hdb
       subst hdf
       have HT0 : Hid (¬ th = true) := fun h => haln (HTH.out.1 h).1
       have HCA : Hid (c = i) := by show _ = _; rw [← HCN.out]; unfold cnt; rw [if_neg (by have := HIN.out; omega)]
       have HFC : Hid (F c = ⟨P, 1, d, x⟩) := by
        have h1 : c = a := by have := HCA.out; have := HIN.out; omega
        show _ = _
        rw [h1, HFA.out]
       have HCP : Hid (c + 1 = ptN E n ⟨P, 1, d, x⟩ a) := by
        show _ = _
        rw [HPN.out, if_neg HT0.out, HCA.out, HIN.out]
       have HOAw5 : Hid (∀ ob, (wr.alloc ob).ownsRow bs 62 4 (.slice at7 c cp7) c (enC F c)) := fun ob => own_below HOW.out ((Below.refl _ _).alloc (Nat.le_refl _) _)
       have HBAw5 : Hid (∀ ob, Below w1.heap.size w1 (wr.alloc ob)) := fun ob => HBE.out.alloc HBE.out.size _
       have HSAw5 : Hid (∀ ob, bs ≤ (wr.alloc ob).heap.size) := fun ob => by rw [World.size_alloc]; omega
       have HCw5 : Hid (c ≤ 2000000) := by show _ ≤ _; omega
       have HNXw5 : Hid (enC F (c + 1) = enC F c ++ [.string P, .int .i64 1, .string d, .bool x]) := by show _ = _; rw [enC_succ, HFC.out]
       go_wp2_with (first
        | (at_builtin; refine app_ent _ rfl _ _ rfl bs _ _ _ rfl (HOAw5.out _) HNN.out ⟨wr.heap.size, 0, none⟩ 1 (.string P) (.int .i64 1) (.string d) (.bool x) rfl (four_at _ _ rfl _ _ _ _ _) (four_one P 1 d x) HCw5.out (HSAw5.out _) ?_; intro v5 w5 hownw5 hvw5 hgw5; refine Hid.out ?_)
        | go_in)
       refine Lib.hid ?_
       have HBw5 : Hid (Below w1.heap.size w1 w5) := (HBAw5.out _).grown hgw5 (HBAw5.out _).size (fun q hq => Nat.le_trans HWB.out ((HOAw5.out (.cells #[.string P, .int .i64 1, .string d, .bool x] 62)).lt q hq).1)
       have HOw5 : Hid (w5.ownsRow bs 62 4 v5 (c + 1) (enC F (c + 1))) := by rw [HNXw5.out]; exact hownw5
       have HVw5 : Hid (v5 ≠ .slice none 0 0) := hvw5
       have hsw5 : bs ≤ w5.heap.size := Nat.le_trans (HSAw5.out _) hgw5.size
       clear hownw5 hvw5 hgw5
       obtain ⟨a5, cp5, hv5⟩ := own_shape HOw5.out
       subst hv5
       have hbb : (c + 1) ≤ 1001 := by omega
       by_cases hbig : 500 < (c + 1)
       ·have hbig' : (500 : Int) < (((c + 1) : Nat) : Int) := by omega
        obtain ⟨e1, e2, e3⟩ := HNO.out (tkB_no fun h => by
         have h4 := h.2.2.2
         have hcp := HCP.out
         rw [HPN.out] at hcp
         rcases h4 with h4 | h4
         ·rw [if_pos (HTH.out.2 h4)] at hcp; omega
         ·split at hcp <;> omega)
        subst e1 e2 e3
        go_wp2_with (go_at_call 85; refine (HCC.out _ HBw5.out).mono ?_; rintro e w9 ⟨⟨v9, rfl, hown9, hv9⟩, hl9⟩; have HR9 : Hid (RowE w5.heap.size w9 v9 RN RF) := own_rowE hown9 hv9; have HB9 : Hid (Below w1.heap.size w1 w9) := HBw5.out.trans (hl9.mono HBw5.out.size); clear hown9 hv9)
        go_ret2
        exact ⟨⟨_, rfl, rowE_mono HR9.out (HUP.out _ HBw5.out).size⟩, HUP.out _ HB9.out⟩
       ·have hbig' : ¬ (500 : Int) < (((c + 1) : Nat) : Int) := by omega
        obtain ⟨e1, e2, e3⟩ := HYES.out (tkB_yes ⟨HEO.out, HUD.out, HKF.out, by
         have hcp := HCP.out
         rw [HPN.out] at hcp
         by_cases ht : th = true
         ·exact .inl (HTH.out.1 ht)
         ·rw [if_neg ht] at hcp
          exact .inr (by omega)⟩)
        have HRW : Hid (RowE bs w5 (.slice a5 (c + 1) cp5) RN RF) := by
         have h := own_rowE HOw5.out HVw5.out
         rw [e2.trans HCP.out.symm, e3, HFF.out]
         exact h
        clear e2 e3
        subst e1
        have HWW : Hid (w.heap.size ≤ bs) := Nat.le_trans HB1.out.size HWB.out
        go_wp2
        go_ret2
        exact ⟨⟨_, rfl, rowE_mono HRW.out HWW.out⟩, HUP.out _ HBw5.out⟩
   ·have hk2 : (k == 1) = false := by rw [beq_eq_false_iff_ne]; exact hk
    cases hf : fullB E n P.data.toList with
    | true =>
     rw [hf] at HCF
     obtain ⟨e1, e2, e3⟩ := HNO.out (tkB_no fun h => by rcases h.2.2.1 with h3 | h3; exact hk h3; exact h3 (fullB_iff.1 hf))
     subst e1 e2 e3
     clear hf
     go_wp2_with (first
      | (go_at_call 82; refine (HCE.out _).mono ?_; rintro e w3 ⟨rfl, hl3⟩; have hb3 : Below w1.heap.size w1 w3 := HB2.out.trans (hl3.mono HB2.out.size); obtain ⟨z0, z1, -, -⟩ := HX.out _ hb3)
      | (go_at_call 84; refine (HCF.out _ hb3).mono ?_; rintro e wf ⟨rfl, hwf⟩; obtain rfl := hwf.symm; clear hwf)
      | (go_at_call 85; refine (HCC.out _ hb3).mono ?_; rintro e w9 ⟨⟨v9, rfl, hown9, hv9⟩, hl9⟩; have HR9 : Hid (RowE w3.heap.size w9 v9 RN RF) := own_rowE hown9 hv9; have HB9 : Hid (Below w1.heap.size w1 w9) := hb3.trans (hl9.mono hb3.size); clear hown9 hv9))
     go_ret2
     exact ⟨⟨_, rfl, rowE_mono HR9.out (HUP.out _ hb3).size⟩, HUP.out _ HB9.out⟩
    | false =>
     rw [hf] at HCF
     have HKF : Hid (KF E n ⟨P, k, d, x⟩) := Or.inr fun h => by rw [fullB_yes h] at hf; cases hf
     clear hf
     go_wp2_with (first
      | (go_at_call 82; refine (HCE.out _).mono ?_; rintro e w3 ⟨rfl, hl3⟩; have hb3 : Below w1.heap.size w1 w3 := HB2.out.trans (hl3.mono HB2.out.size); obtain ⟨z0, z1, -, -⟩ := HX.out _ hb3)
      | (go_at_call 84; refine (HCF.out _ hb3).mono ?_; rintro e wf ⟨rfl, hwf⟩; obtain rfl := hwf.symm; clear hwf; have HB3 : Hid (Below w1.heap.size w1 w3) := hb3; refine Hid.out ?_))
     refine Lib.hid ?_
     clear hl2 hl3 hb3 y0 y1 y2 y3
     obtain ⟨th, hth⟩ : ∃ th, isB E n P.data.toList a = th := ⟨_, rfl⟩
     have HTH : Hid (th = true ↔ Is E n P.data.toList a) := by rw [← hth]; exact isB_iff
     obtain ⟨F, hF⟩ : ∃ F, ptF E n ⟨P, k, d, x⟩ a = F := ⟨_, rfl⟩
     have HFF : Hid (ptF E n ⟨P, k, d, x⟩ a = F) := hF
     have HFL : Hid (∀ j, j < a → F j = E j) := fun j hj => by rw [← hF]; exact pt_lt hj
     have HFA : Hid (F a = ⟨P, k, d, x⟩) := by rw [← hF]; exact pt_at E n a _
     have HFG : Hid (∀ j, a < j → F j = if th = true then E j else E (j - 1)) := fun j hj => by rw [← hF, ← hth]; exact pt_gt hj
     have HPN : Hid (ptN E n ⟨P, k, d, x⟩ a = if th = true then n else n + 1) := by rw [← hth]; show _ = _; rfl
     obtain ⟨bs, hbs⟩ : ∃ bs, bs = w3.heap.size := ⟨_, rfl⟩
     have HO0 : Hid ((w3.alloc (.cells #[] 62)).ownsRow bs 62 4 (.slice (some ⟨w3.heap.size, 0, none⟩) 0 0) 0 (enC F 0)) := by rw [hbs]; exact made_own w3 0 (by omega) #[] rfl
     have HBA0 : Hid (Below w1.heap.size w1 (w3.alloc (.cells #[] 62))) := HB3.out.alloc HB3.out.size _
     have HS0 : Hid (bs ≤ (w3.alloc (.cells #[] 62)).heap.size) := by show _ ≤ _; rw [World.size_alloc]; omega
     have HWB : Hid (w1.heap.size ≤ bs) := by rw [hbs]; exact HB3.out.size
     clear hF hth hbs
     go_wp2
     clear z0 z1
     go_loopw [7, 8, 9] (fun v dn x wr => ∃ (i : Nat) (db : Bool), i ≤ n ∧ x = .int .i64 (i : Int) ∧ dn = .bool db ∧ db = decide (a < i) ∧ wr.ownsRow bs 62 4 v (cnt th a i) (enC F (cnt th a i)) ∧ v ≠ .slice none 0 0 ∧ Below w1.heap.size w1 wr ∧ bs ≤ wr.heap.size) (fun _ _ x _ => n - (intOf x).toNat)
     case atStart => exact ⟨0, false, Nat.zero_le _, rfl, rfl, by simp, by simpa [cnt] using HO0.out, (by intro e; cases e), HBA0.out, HS0.out⟩
     case round =>
      obtain ⟨i, db, hi, rfl, rfl, hdb, hown, hvn, hbel, hbsw⟩ := hrel
      obtain ⟨at7, cp7, hv7⟩ := own_shape hown
      obtain ⟨c, hc⟩ : ∃ c, cnt th a i = c := ⟨_, rfl⟩
      rw [hc] at hown hv7
      subst hv7
      have HOW : Hid (wr.ownsRow bs 62 4 (.slice at7 c cp7) c (enC F c)) := hown
      have HNN : Hid (Value.slice at7 c cp7 ≠ .slice none 0 0) := hvn
      have HBE : Hid (Below w1.heap.size w1 wr) := hbel
      have HCN : Hid (cnt th a i = c) := hc
      have hcb : c ≤ 1000 := by have := cnt_le th a i; omega
      obtain ⟨q0, q1, q2, q3⟩ := HX.out _ hbel
      clear hown hvn hbel hc
      by_cases hin : i < n
      ·have hin' : (i : Int) < (n : Int) := by omega
       have hi0 : (0 : Int) ≤ (i : Int) := by omega
       obtain ⟨c0, c1, c2, c3⟩ := HRD.out _ HBE.out i hin
       rw [Nat.zero_add] at c0 c1 c2 c3
       have HCI0 : Hid (∀ W, Below w1.heap.size w1 W → N4 W b (i * 4) (E i)) := fun W hW => by have := HRD.out W hW i hin; rwa [Nat.zero_add] at this
       have HPM : Hid (pth E i = (E i).path.data.toList) := rfl
       obtain ⟨e1, he1⟩ : ∃ e1, E i = e1 := ⟨_, rfl⟩
       have HEI : Hid (E i = e1) := he1
       rw [he1] at c0 c1 c2 c3 HPM HCI0
       clear he1
       obtain ⟨M, kM, dM, xM⟩ := e1
       simp only at c0 c1 c2 c3 HPM
       have HCI : Hid (∀ W, Below w1.heap.size w1 W → W.cell? ⟨b, i * 4, none⟩ = some (.string M) ∧ W.cell? ⟨b, i * 4 + 1, none⟩ = some (.int .i64 kM) ∧ W.cell? ⟨b, i * 4 + 2, none⟩ = some (.string dM) ∧ W.cell? ⟨b, i * 4 + 3, none⟩ = some (.bool xM)) := HCI0
       clear HCI0
       rcases Nat.lt_trichotomy i a with hia | hia | hia
       ·have hdf : db = false := hdb.trans (decide_eq_false (by omega))
        clear hdb
        subst hdf
        have hbl : Op.bytesLess M.toList P.toList = true := bl_yes (by rw [← HPM.out]; exact HRK.out.lo i hia)
        have heq : (M.toList == P.toList) = false := by
         rw [ByteArray.toList_eq, ByteArray.toList_eq, beq_eq_false_iff_ne]
         intro e
         exact absurd (HRK.out.lo i hia) (by rw [HPM.out, e]; exact List.lt_irrefl _)
        go_wp2_with fail
        go_quiet (fail)
        go_wp2_with fail
        go_quiet (fail)
        clear c0 c1 c2 c3 q0 q1 q2 q3
        generalize hwq : World.drewN (World.drewN wr _) _ = wq
        have HQ : Hid (Below wr.heap.size wr wq) := by rw [← hwq]; exact bel_dn2 _ _ _
        have hsq : wr.heap.size ≤ wq.heap.size := HQ.out.size
        clear hwq
        have HBwq : Hid (Below w1.heap.size w1 wq) := HBE.out.trans (HQ.out.mono HBE.out.size)
        have HOwq : Hid (wq.ownsRow bs 62 4 (.slice at7 c cp7) c (enC F c)) := own_below HOW.out HQ.out
        obtain ⟨c0, c1, c2, c3⟩ := HCI.out _ HBwq.out
        obtain ⟨q0, q1, q2, q3⟩ := HX.out _ HBwq.out
        have HFC : Hid (F c = ⟨M, kM, dM, xM⟩) := by
         have h1 : c = i := by rw [← HCN.out]; unfold cnt; rw [if_neg (by omega)]
         rw [h1]
         exact (HFL.out i hia).trans HEI.out
        have HOAw6 : Hid (∀ ob, (wq.alloc ob).ownsRow bs 62 4 (.slice at7 c cp7) c (enC F c)) := fun ob => own_below HOwq.out ((Below.refl _ _).alloc (Nat.le_refl _) _)
        have HBAw6 : Hid (∀ ob, Below w1.heap.size w1 (wq.alloc ob)) := fun ob => HBwq.out.alloc HBwq.out.size _
        have HSAw6 : Hid (∀ ob, bs ≤ (wq.alloc ob).heap.size) := fun ob => by rw [World.size_alloc]; omega
        have HCw6 : Hid (c ≤ 2000000) := by show _ ≤ _; omega
        have HNXw6 : Hid (enC F (c + 1) = enC F c ++ [.string M, .int .i64 kM, .string dM, .bool xM]) := by show _ = _; rw [enC_succ, HFC.out]
        go_wp2_with (first
         | (at_builtin; refine app_ent _ rfl _ _ rfl bs _ _ _ rfl (HOAw6.out _) HNN.out ⟨wq.heap.size, 0, none⟩ 1 (.string M) (.int .i64 kM) (.string dM) (.bool xM) rfl (four_at _ _ rfl _ _ _ _ _) (four_one M kM dM xM) HCw6.out (HSAw6.out _) ?_; intro v6 w6 hownw6 hvw6 hgw6; refine Hid.out ?_)
         | go_in)
        refine Lib.hid ?_
        have HBw6 : Hid (Below w1.heap.size w1 w6) := (HBAw6.out _).grown hgw6 (HBAw6.out _).size (fun q hq => Nat.le_trans HWB.out ((HOAw6.out (.cells #[.string M, .int .i64 kM, .string dM, .bool xM] 62)).lt q hq).1)
        have HOw6 : Hid (w6.ownsRow bs 62 4 v6 (c + 1) (enC F (c + 1))) := by rw [HNXw6.out]; exact hownw6
        have HVw6 : Hid (v6 ≠ .slice none 0 0) := hvw6
        have hsw6 : bs ≤ w6.heap.size := Nat.le_trans (HSAw6.out _) hgw6.size
        clear hownw6 hvw6 hgw6
        have HCT : Hid (cnt th a (i + 1) = c + 1) := by
         show _ = _
         rw [← HCN.out]
         unfold cnt
         rw [if_neg (by omega), if_neg (by omega)]
        clear c0 c1 c2 c3 q0 q1 q2 q3
        go_wp2
        go_roundw
        case rel => exact ⟨i + 1, false, by omega, by go_num, by first | rfl | trivial, (decide_eq_false (by omega)).symm, by rw [HCT.out]; exact HOw6.out, HVw6.out, HBw6.out, hsw6⟩
        case measure => simp [intOf] <;> omega
       ·subst hia
        have hdf : db = false := hdb.trans (decide_eq_false (by omega))
        clear hdb
        subst hdf
        have hbl : Op.bytesLess M.toList P.toList = false := bl_no (by rw [← HPM.out]; exact HRK.out.hi i (Nat.le_refl _) hin)
        go_wp2_with fail
        go_quiet (fail)
        clear c0 c1 c2 c3 q0 q1 q2 q3
        generalize hwq : World.drewN wr _ = wq
        have HQ : Hid (Below wr.heap.size wr wq) := by rw [← hwq]; exact bel_dn _ _
        have hsq : wr.heap.size ≤ wq.heap.size := HQ.out.size
        clear hwq
        have HBwq : Hid (Below w1.heap.size w1 wq) := HBE.out.trans (HQ.out.mono HBE.out.size)
        have HOwq : Hid (wq.ownsRow bs 62 4 (.slice at7 c cp7) c (enC F c)) := own_below HOW.out HQ.out
        obtain ⟨c0, c1, c2, c3⟩ := HCI.out _ HBwq.out
        obtain ⟨q0, q1, q2, q3⟩ := HX.out _ HBwq.out
        have HCA : Hid (c = i) := by show _ = _; rw [← HCN.out]; unfold cnt; rw [if_neg (by omega)]
        have HFC : Hid (F c = ⟨P, k, d, x⟩) := by
         show _ = _
         rw [HCA.out, HFA.out]
        have HOAw5 : Hid (∀ ob, (wq.alloc ob).ownsRow bs 62 4 (.slice at7 c cp7) c (enC F c)) := fun ob => own_below HOwq.out ((Below.refl _ _).alloc (Nat.le_refl _) _)
        have HBAw5 : Hid (∀ ob, Below w1.heap.size w1 (wq.alloc ob)) := fun ob => HBwq.out.alloc HBwq.out.size _
        have HSAw5 : Hid (∀ ob, bs ≤ (wq.alloc ob).heap.size) := fun ob => by rw [World.size_alloc]; omega
        have HCw5 : Hid (c ≤ 2000000) := by show _ ≤ _; omega
        have HNXw5 : Hid (enC F (c + 1) = enC F c ++ [.string P, .int .i64 k, .string d, .bool x]) := by show _ = _; rw [enC_succ, HFC.out]
        go_wp2_with (first
         | (at_builtin; refine app_ent _ rfl _ _ rfl bs _ _ _ rfl (HOAw5.out _) HNN.out ⟨wq.heap.size, 0, none⟩ 1 (.string P) (.int .i64 k) (.string d) (.bool x) rfl (four_at _ _ rfl _ _ _ _ _) (four_one P k d x) HCw5.out (HSAw5.out _) ?_; intro v5 w5 hownw5 hvw5 hgw5; refine Hid.out ?_)
         | go_in)
        refine Lib.hid ?_
        have HBw5 : Hid (Below w1.heap.size w1 w5) := (HBAw5.out _).grown hgw5 (HBAw5.out _).size (fun q hq => Nat.le_trans HWB.out ((HOAw5.out (.cells #[.string P, .int .i64 k, .string d, .bool x] 62)).lt q hq).1)
        have HOw5 : Hid (w5.ownsRow bs 62 4 v5 (c + 1) (enC F (c + 1))) := by rw [HNXw5.out]; exact hownw5
        have HVw5 : Hid (v5 ≠ .slice none 0 0) := hvw5
        have hsw5 : bs ≤ w5.heap.size := Nat.le_trans (HSAw5.out _) hgw5.size
        clear hownw5 hvw5 hgw5
        clear c0 c1 c2 c3 q0 q1 q2 q3
        obtain ⟨c0, c1, c2, c3⟩ := HCI.out _ HBw5.out
        obtain ⟨q0, q1, q2, q3⟩ := HX.out _ HBw5.out
        obtain ⟨a5, cp5, hv5⟩ := own_shape HOw5.out
        subst hv5
        by_cases ht : M.data.toList = P.data.toList
        ·have heq : (M.toList == P.toList) = true := by rw [ByteArray.toList_eq, ByteArray.toList_eq]; simpa using ht
         have HT1 : Hid (th = true) := HTH.out.2 ⟨hin, HPM.out.trans ht⟩
         have HCT : Hid (cnt th i (i + 1) = c + 1) := by
          show _ = _
          rw [HCA.out]
          unfold cnt
          rw [if_pos (by omega), if_pos HT1.out]
         clear ht
         go_wp2_with fail
         go_quiet (fail)
         clear c0 c1 c2 c3 q0 q1 q2 q3
         generalize hwqz : World.drewN w5 _ = wz
         have HQz : Hid (Below w5.heap.size w5 wz) := by rw [← hwqz]; exact bel_dn _ _
         have hsqz : w5.heap.size ≤ wz.heap.size := HQz.out.size
         clear hwqz
         have HBwz : Hid (Below w1.heap.size w1 wz) := HBw5.out.trans (HQz.out.mono HBw5.out.size)
         have HOwz : Hid (wz.ownsRow bs 62 4 (.slice a5 (c + 1) cp5) (c + 1) (enC F (c + 1))) := own_below HOw5.out HQz.out
         go_wp2
         go_roundw
         case rel => exact ⟨i + 1, true, by omega, by go_num, by first | rfl | trivial, (decide_eq_true (by omega)).symm, by rw [HCT.out]; exact HOwz.out, HVw5.out, HBwz.out, by omega⟩
         case measure => simp [intOf] <;> omega
        ·have heq : (M.toList == P.toList) = false := by rw [ByteArray.toList_eq, ByteArray.toList_eq, beq_eq_false_iff_ne]; exact ht
         have HT0 : Hid (¬ th = true) := fun h => ht (HPM.out.symm.trans (HTH.out.1 h).2)
         have HCT : Hid (cnt th i (i + 1) = c + 1 + 1) := by
          show _ = _
          rw [HCA.out]
          unfold cnt
          rw [if_pos (by omega), if_neg HT0.out]
         have HFD : Hid (F (c + 1) = ⟨M, kM, dM, xM⟩) := by
          show _ = _
          rw [HFG.out (c + 1) (by have := HCA.out; omega), if_neg HT0.out, show c + 1 - 1 = c from rfl, HCA.out]
          exact HEI.out
         clear ht
         go_wp2_with fail
         go_quiet (fail)
         clear c0 c1 c2 c3 q0 q1 q2 q3
         generalize hwqz : World.drewN w5 _ = wz
         have HQz : Hid (Below w5.heap.size w5 wz) := by rw [← hwqz]; exact bel_dn _ _
         have hsqz : w5.heap.size ≤ wz.heap.size := HQz.out.size
         clear hwqz
         have HBwz : Hid (Below w1.heap.size w1 wz) := HBw5.out.trans (HQz.out.mono HBw5.out.size)
         have HOwz : Hid (wz.ownsRow bs 62 4 (.slice a5 (c + 1) cp5) (c + 1) (enC F (c + 1))) := own_below HOw5.out HQz.out
         obtain ⟨c0, c1, c2, c3⟩ := HCI.out _ HBwz.out
         obtain ⟨q0, q1, q2, q3⟩ := HX.out _ HBwz.out
         have HOAw6 : Hid (∀ ob, (wz.alloc ob).ownsRow bs 62 4 (.slice a5 (c + 1) cp5) (c + 1) (enC F (c + 1))) := fun ob => own_below HOwz.out ((Below.refl _ _).alloc (Nat.le_refl _) _)
         have HBAw6 : Hid (∀ ob, Below w1.heap.size w1 (wz.alloc ob)) := fun ob => HBwz.out.alloc HBwz.out.size _
         have HSAw6 : Hid (∀ ob, bs ≤ (wz.alloc ob).heap.size) := fun ob => by rw [World.size_alloc]; omega
         have HCw6 : Hid ((c + 1) ≤ 2000000) := by show _ ≤ _; omega
         have HNXw6 : Hid (enC F ((c + 1) + 1) = enC F (c + 1) ++ [.string M, .int .i64 kM, .string dM, .bool xM]) := by show _ = _; rw [enC_succ, HFD.out]
         go_wp2_with (first
          | (at_builtin; refine app_ent _ rfl _ _ rfl bs _ _ _ rfl (HOAw6.out _) HVw5.out ⟨wz.heap.size, 0, none⟩ 1 (.string M) (.int .i64 kM) (.string dM) (.bool xM) rfl (four_at _ _ rfl _ _ _ _ _) (four_one M kM dM xM) HCw6.out (HSAw6.out _) ?_; intro v6 w6 hownw6 hvw6 hgw6; refine Hid.out ?_)
          | go_in)
         refine Lib.hid ?_
         have HBw6 : Hid (Below w1.heap.size w1 w6) := (HBAw6.out _).grown hgw6 (HBAw6.out _).size (fun q hq => Nat.le_trans HWB.out ((HOAw6.out (.cells #[.string M, .int .i64 kM, .string dM, .bool xM] 62)).lt q hq).1)
         have HOw6 : Hid (w6.ownsRow bs 62 4 v6 ((c + 1) + 1) (enC F ((c + 1) + 1))) := by rw [HNXw6.out]; exact hownw6
         have HVw6 : Hid (v6 ≠ .slice none 0 0) := hvw6
         have hsw6 : bs ≤ w6.heap.size := Nat.le_trans (HSAw6.out _) hgw6.size
         clear hownw6 hvw6 hgw6
         clear c0 c1 c2 c3 q0 q1 q2 q3
         go_wp2
         go_roundw
         case rel => exact ⟨i + 1, true, by omega, by go_num, by first | rfl | trivial, (decide_eq_true (by omega)).symm, by rw [HCT.out]; exact HOw6.out, HVw6.out, HBw6.out, hsw6⟩
         case measure => simp [intOf] <;> omega
       ·have hdf : db = true := hdb.trans (decide_eq_true (by omega))
        clear hdb
        subst hdf
        have heq : (M.toList == P.toList) = false := by
         rw [ByteArray.toList_eq, ByteArray.toList_eq, beq_eq_false_iff_ne]
         intro e
         exact HRK.out.hi a (Nat.le_refl _) (by omega) (by have := HAS.out a i hia hin; rw [HPM.out, e] at this; exact this)
        go_wp2_with fail
        go_quiet (fail)
        go_wp2_with fail
        go_quiet (fail)
        clear c0 c1 c2 c3 q0 q1 q2 q3
        generalize hwq : World.drewN (World.drewN wr _) _ = wq
        have HQ : Hid (Below wr.heap.size wr wq) := by rw [← hwq]; exact bel_dn2 _ _ _
        have hsq : wr.heap.size ≤ wq.heap.size := HQ.out.size
        clear hwq
        have HBwq : Hid (Below w1.heap.size w1 wq) := HBE.out.trans (HQ.out.mono HBE.out.size)
        have HOwq : Hid (wq.ownsRow bs 62 4 (.slice at7 c cp7) c (enC F c)) := own_below HOW.out HQ.out
        obtain ⟨c0, c1, c2, c3⟩ := HCI.out _ HBwq.out
        obtain ⟨q0, q1, q2, q3⟩ := HX.out _ HBwq.out
        have HFC : Hid (F c = ⟨M, kM, dM, xM⟩) := by
         have hc := HCN.out
         unfold cnt at hc
         rw [if_pos hia] at hc
         have hac : a < c := by split at hc <;> omega
         show _ = _
         rw [HFG.out c hac]
         by_cases ht : th = true
         ·rw [if_pos ht] at hc ⊢
          rw [← hc]
          exact HEI.out
         ·rw [if_neg ht] at hc ⊢
          rw [← hc]
          exact HEI.out
        have HOAw6 : Hid (∀ ob, (wq.alloc ob).ownsRow bs 62 4 (.slice at7 c cp7) c (enC F c)) := fun ob => own_below HOwq.out ((Below.refl _ _).alloc (Nat.le_refl _) _)
        have HBAw6 : Hid (∀ ob, Below w1.heap.size w1 (wq.alloc ob)) := fun ob => HBwq.out.alloc HBwq.out.size _
        have HSAw6 : Hid (∀ ob, bs ≤ (wq.alloc ob).heap.size) := fun ob => by rw [World.size_alloc]; omega
        have HCw6 : Hid (c ≤ 2000000) := by show _ ≤ _; omega
        have HNXw6 : Hid (enC F (c + 1) = enC F c ++ [.string M, .int .i64 kM, .string dM, .bool xM]) := by show _ = _; rw [enC_succ, HFC.out]
        go_wp2_with (first
         | (at_builtin; refine app_ent _ rfl _ _ rfl bs _ _ _ rfl (HOAw6.out _) HNN.out ⟨wq.heap.size, 0, none⟩ 1 (.string M) (.int .i64 kM) (.string dM) (.bool xM) rfl (four_at _ _ rfl _ _ _ _ _) (four_one M kM dM xM) HCw6.out (HSAw6.out _) ?_; intro v6 w6 hownw6 hvw6 hgw6; refine Hid.out ?_)
         | go_in)
        refine Lib.hid ?_
        have HBw6 : Hid (Below w1.heap.size w1 w6) := (HBAw6.out _).grown hgw6 (HBAw6.out _).size (fun q hq => Nat.le_trans HWB.out ((HOAw6.out (.cells #[.string M, .int .i64 kM, .string dM, .bool xM] 62)).lt q hq).1)
        have HOw6 : Hid (w6.ownsRow bs 62 4 v6 (c + 1) (enC F (c + 1))) := by rw [HNXw6.out]; exact hownw6
        have HVw6 : Hid (v6 ≠ .slice none 0 0) := hvw6
        have hsw6 : bs ≤ w6.heap.size := Nat.le_trans (HSAw6.out _) hgw6.size
        clear hownw6 hvw6 hgw6
        have HCT : Hid (cnt th a (i + 1) = c + 1) := by
         show _ = _
         rw [← HCN.out]
         unfold cnt
         rw [if_pos (by omega), if_pos hia]
         split <;> omega
        clear c0 c1 c2 c3 q0 q1 q2 q3
        go_wp2
        go_roundw
        case rel => exact ⟨i + 1, true, by omega, by go_num, by first | rfl | trivial, (decide_eq_true (by omega)).symm, by rw [HCT.out]; exact HOw6.out, HVw6.out, HBw6.out, hsw6⟩
        case measure => simp [intOf] <;> omega
      ·have HIN : Hid (i = n) := by show _ = _; omega
       have hin' : ¬ (i : Int) < (n : Int) := by omega
       by_cases haln : a < n
       ·have hdf : db = true := hdb.trans (decide_eq_true (by have := HIN.out; omega))
        clear hdb
        subst hdf
        have HCP : Hid (c = ptN E n ⟨P, k, d, x⟩ a) := by
         show _ = _
         rw [HPN.out, ← HCN.out, HIN.out]
         unfold cnt
         rw [if_pos haln]
        have hbb : c ≤ 1001 := by omega
        by_cases hbig : 500 < c
        ·have hbig' : (500 : Int) < ((c : Nat) : Int) := by omega
         obtain ⟨e1, e2, e3⟩ := HNO.out (tkB_no fun h => by
          have h4 := h.2.2.2
          have hcp := HCP.out
          rw [HPN.out] at hcp
          rcases h4 with h4 | h4
          ·rw [if_pos (HTH.out.2 h4)] at hcp; omega
          ·split at hcp <;> omega)
         subst e1 e2 e3
         go_wp2_with (go_at_call 85; refine (HCC.out _ HBE.out).mono ?_; rintro e w9 ⟨⟨v9, rfl, hown9, hv9⟩, hl9⟩; have HR9 : Hid (RowE wr.heap.size w9 v9 RN RF) := own_rowE hown9 hv9; have HB9 : Hid (Below w1.heap.size w1 w9) := HBE.out.trans (hl9.mono HBE.out.size); clear hown9 hv9)
         go_ret2
         exact ⟨⟨_, rfl, rowE_mono HR9.out (HUP.out _ HBE.out).size⟩, HUP.out _ HB9.out⟩
        ·have hbig' : ¬ (500 : Int) < ((c : Nat) : Int) := by omega
         obtain ⟨e1, e2, e3⟩ := HYES.out (tkB_yes ⟨HEO.out, HUD.out, HKF.out, by
          have hcp := HCP.out
          rw [HPN.out] at hcp
          by_cases ht : th = true
          ·exact .inl (HTH.out.1 ht)
          ·rw [if_neg ht] at hcp
           exact .inr (by omega)⟩)
         have HRW : Hid (RowE bs wr (.slice at7 c cp7) RN RF) := by
          have h := own_rowE HOW.out HNN.out
          rw [e2.trans HCP.out.symm, e3, HFF.out]
          exact h
         clear e2 e3
         subst e1
         have HWW : Hid (w.heap.size ≤ bs) := Nat.le_trans HB1.out.size HWB.out
         go_wp2
         go_ret2
         exact ⟨⟨_, rfl, rowE_mono HRW.out HWW.out⟩, HUP.out _ HBE.out⟩
       ·have hdf : db = false := hdb.trans (decide_eq_false (by have := HIN.out; omega))
        clear hdb
        subst hdf
        have HT0 : Hid (¬ th = true) := fun h => haln (HTH.out.1 h).1
        have HCA : Hid (c = i) := by show _ = _; rw [← HCN.out]; unfold cnt; rw [if_neg (by have := HIN.out; omega)]
        have HFC : Hid (F c = ⟨P, k, d, x⟩) := by
         have h1 : c = a := by have := HCA.out; have := HIN.out; omega
         show _ = _
         rw [h1, HFA.out]
        have HCP : Hid (c + 1 = ptN E n ⟨P, k, d, x⟩ a) := by
         show _ = _
         rw [HPN.out, if_neg HT0.out, HCA.out, HIN.out]
        have HOAw5 : Hid (∀ ob, (wr.alloc ob).ownsRow bs 62 4 (.slice at7 c cp7) c (enC F c)) := fun ob => own_below HOW.out ((Below.refl _ _).alloc (Nat.le_refl _) _)
        have HBAw5 : Hid (∀ ob, Below w1.heap.size w1 (wr.alloc ob)) := fun ob => HBE.out.alloc HBE.out.size _
        have HSAw5 : Hid (∀ ob, bs ≤ (wr.alloc ob).heap.size) := fun ob => by rw [World.size_alloc]; omega
        have HCw5 : Hid (c ≤ 2000000) := by show _ ≤ _; omega
        have HNXw5 : Hid (enC F (c + 1) = enC F c ++ [.string P, .int .i64 k, .string d, .bool x]) := by show _ = _; rw [enC_succ, HFC.out]
        go_wp2_with (first
         | (at_builtin; refine app_ent _ rfl _ _ rfl bs _ _ _ rfl (HOAw5.out _) HNN.out ⟨wr.heap.size, 0, none⟩ 1 (.string P) (.int .i64 k) (.string d) (.bool x) rfl (four_at _ _ rfl _ _ _ _ _) (four_one P k d x) HCw5.out (HSAw5.out _) ?_; intro v5 w5 hownw5 hvw5 hgw5; refine Hid.out ?_)
         | go_in)
        refine Lib.hid ?_
        have HBw5 : Hid (Below w1.heap.size w1 w5) := (HBAw5.out _).grown hgw5 (HBAw5.out _).size (fun q hq => Nat.le_trans HWB.out ((HOAw5.out (.cells #[.string P, .int .i64 k, .string d, .bool x] 62)).lt q hq).1)
        have HOw5 : Hid (w5.ownsRow bs 62 4 v5 (c + 1) (enC F (c + 1))) := by rw [HNXw5.out]; exact hownw5
        have HVw5 : Hid (v5 ≠ .slice none 0 0) := hvw5
        have hsw5 : bs ≤ w5.heap.size := Nat.le_trans (HSAw5.out _) hgw5.size
        clear hownw5 hvw5 hgw5
        obtain ⟨a5, cp5, hv5⟩ := own_shape HOw5.out
        subst hv5
        have hbb : (c + 1) ≤ 1001 := by omega
        by_cases hbig : 500 < (c + 1)
        ·have hbig' : (500 : Int) < (((c + 1) : Nat) : Int) := by omega
         obtain ⟨e1, e2, e3⟩ := HNO.out (tkB_no fun h => by
          have h4 := h.2.2.2
          have hcp := HCP.out
          rw [HPN.out] at hcp
          rcases h4 with h4 | h4
          ·rw [if_pos (HTH.out.2 h4)] at hcp; omega
          ·split at hcp <;> omega)
         subst e1 e2 e3
         go_wp2_with (go_at_call 85; refine (HCC.out _ HBw5.out).mono ?_; rintro e w9 ⟨⟨v9, rfl, hown9, hv9⟩, hl9⟩; have HR9 : Hid (RowE w5.heap.size w9 v9 RN RF) := own_rowE hown9 hv9; have HB9 : Hid (Below w1.heap.size w1 w9) := HBw5.out.trans (hl9.mono HBw5.out.size); clear hown9 hv9)
         go_ret2
         exact ⟨⟨_, rfl, rowE_mono HR9.out (HUP.out _ HBw5.out).size⟩, HUP.out _ HB9.out⟩
        ·have hbig' : ¬ (500 : Int) < (((c + 1) : Nat) : Int) := by omega
         obtain ⟨e1, e2, e3⟩ := HYES.out (tkB_yes ⟨HEO.out, HUD.out, HKF.out, by
          have hcp := HCP.out
          rw [HPN.out] at hcp
          by_cases ht : th = true
          ·exact .inl (HTH.out.1 ht)
          ·rw [if_neg ht] at hcp
           exact .inr (by omega)⟩)
         have HRW : Hid (RowE bs w5 (.slice a5 (c + 1) cp5) RN RF) := by
          have h := own_rowE HOw5.out HVw5.out
          rw [e2.trans HCP.out.symm, e3, HFF.out]
          exact h
         clear e2 e3
         subst e1
         have HWW : Hid (w.heap.size ≤ bs) := Nat.le_trans HB1.out.size HWB.out
         go_wp2
         go_ret2
         exact ⟨⟨_, rfl, rowE_mono HRW.out HWW.out⟩, HUP.out _ HBw5.out⟩
  | false =>
   cases hdb : dirB E n (up P.data.toList) with
   | false =>
    rw [hdb] at HCD
    obtain ⟨e1, e2, e3⟩ := HNO.out (tkB_no fun h => by
     have h2 := h.2.1 (fun e => by rw [HUE.out.2 e] at hue; cases hue)
     rw [dirB_yes h2] at hdb
     cases hdb)
    subst e1 e2 e3
    clear hdb
    go_wp2_with (first
     | (go_at_call 82; refine (HCE.out _).mono ?_; rintro e w3 ⟨rfl, hl3⟩; have hb3 : Below w1.heap.size w1 w3 := HB2.out.trans (hl3.mono HB2.out.size); obtain ⟨z0, z1, -, -⟩ := HX.out _ hb3)
     | (go_at_call 83; refine (HCD.out _ hb3).mono ?_; rintro e w4 ⟨rfl, hl4⟩; have hb4 : Below w1.heap.size w1 w4 := hb3.trans (hl4.mono hb3.size); obtain ⟨t0, t1, -, -⟩ := HX.out _ hb4)
     | (go_at_call 85; refine (HCC.out _ hb4).mono ?_; rintro e w9 ⟨⟨v9, rfl, hown9, hv9⟩, hl9⟩; have HR9 : Hid (RowE w4.heap.size w9 v9 RN RF) := own_rowE hown9 hv9; have HB9 : Hid (Below w1.heap.size w1 w9) := hb4.trans (hl9.mono hb4.size); clear hown9 hv9))
    go_ret2
    exact ⟨⟨_, rfl, rowE_mono HR9.out (HUP.out _ hb4).size⟩, HUP.out _ HB9.out⟩
   | true =>
    rw [hdb] at HCD
    have HUD : Hid (up P.data.toList ≠ [] → Dir E n (up P.data.toList)) := fun _ => dirB_iff.1 hdb
    clear hdb
    by_cases hk : k = 1
    ·subst hk
     have HKF : Hid (KF E n ⟨P, 1, d, x⟩) := Or.inl rfl
     go_wp2_with (first
      | (go_at_call 82; refine (HCE.out _).mono ?_; rintro e w4 ⟨rfl, hl4⟩; have hb4 : Below w1.heap.size w1 w4 := HB2.out.trans (hl4.mono HB2.out.size); obtain ⟨t0, t1, -, -⟩ := HX.out _ hb4)
      | (go_at_call 83; refine (HCD.out _ hb4).mono ?_; rintro e w3 ⟨rfl, hl3⟩; have hb3 : Below w1.heap.size w1 w3 := hb4.trans (hl3.mono hb4.size); obtain ⟨z0, z1, -, -⟩ := HX.out _ hb3; have HB3 : Hid (Below w1.heap.size w1 w3) := hb3; refine Hid.out ?_))
     refine Lib.hid ?_
     clear hl2 hl3 hl4 hb4 hb3 t0 t1 y0 y1 y2 y3
     obtain ⟨th, hth⟩ : ∃ th, isB E n P.data.toList a = th := ⟨_, rfl⟩
     have HTH : Hid (th = true ↔ Is E n P.data.toList a) := by rw [← hth]; exact isB_iff
     obtain ⟨F, hF⟩ : ∃ F, ptF E n ⟨P, 1, d, x⟩ a = F := ⟨_, rfl⟩
     have HFF : Hid (ptF E n ⟨P, 1, d, x⟩ a = F) := hF
     have HFL : Hid (∀ j, j < a → F j = E j) := fun j hj => by rw [← hF]; exact pt_lt hj
     have HFA : Hid (F a = ⟨P, 1, d, x⟩) := by rw [← hF]; exact pt_at E n a _
     have HFG : Hid (∀ j, a < j → F j = if th = true then E j else E (j - 1)) := fun j hj => by rw [← hF, ← hth]; exact pt_gt hj
     have HPN : Hid (ptN E n ⟨P, 1, d, x⟩ a = if th = true then n else n + 1) := by rw [← hth]; show _ = _; rfl
     obtain ⟨bs, hbs⟩ : ∃ bs, bs = w3.heap.size := ⟨_, rfl⟩
     have HO0 : Hid ((w3.alloc (.cells #[] 62)).ownsRow bs 62 4 (.slice (some ⟨w3.heap.size, 0, none⟩) 0 0) 0 (enC F 0)) := by rw [hbs]; exact made_own w3 0 (by omega) #[] rfl
     have HBA0 : Hid (Below w1.heap.size w1 (w3.alloc (.cells #[] 62))) := HB3.out.alloc HB3.out.size _
     have HS0 : Hid (bs ≤ (w3.alloc (.cells #[] 62)).heap.size) := by show _ ≤ _; rw [World.size_alloc]; omega
     have HWB : Hid (w1.heap.size ≤ bs) := by rw [hbs]; exact HB3.out.size
     clear hF hth hbs
     go_wp2
     clear z0 z1
     go_loopw [7, 8, 9] (fun v dn x wr => ∃ (i : Nat) (db : Bool), i ≤ n ∧ x = .int .i64 (i : Int) ∧ dn = .bool db ∧ db = decide (a < i) ∧ wr.ownsRow bs 62 4 v (cnt th a i) (enC F (cnt th a i)) ∧ v ≠ .slice none 0 0 ∧ Below w1.heap.size w1 wr ∧ bs ≤ wr.heap.size) (fun _ _ x _ => n - (intOf x).toNat)
     case atStart => exact ⟨0, false, Nat.zero_le _, rfl, rfl, by simp, by simpa [cnt] using HO0.out, (by intro e; cases e), HBA0.out, HS0.out⟩
     case round =>
      obtain ⟨i, db, hi, rfl, rfl, hdb, hown, hvn, hbel, hbsw⟩ := hrel
      obtain ⟨at7, cp7, hv7⟩ := own_shape hown
      obtain ⟨c, hc⟩ : ∃ c, cnt th a i = c := ⟨_, rfl⟩
      rw [hc] at hown hv7
      subst hv7
      have HOW : Hid (wr.ownsRow bs 62 4 (.slice at7 c cp7) c (enC F c)) := hown
      have HNN : Hid (Value.slice at7 c cp7 ≠ .slice none 0 0) := hvn
      have HBE : Hid (Below w1.heap.size w1 wr) := hbel
      have HCN : Hid (cnt th a i = c) := hc
      have hcb : c ≤ 1000 := by have := cnt_le th a i; omega
      obtain ⟨q0, q1, q2, q3⟩ := HX.out _ hbel
      clear hown hvn hbel hc
      by_cases hin : i < n
      ·have hin' : (i : Int) < (n : Int) := by omega
       have hi0 : (0 : Int) ≤ (i : Int) := by omega
       obtain ⟨c0, c1, c2, c3⟩ := HRD.out _ HBE.out i hin
       rw [Nat.zero_add] at c0 c1 c2 c3
       have HCI0 : Hid (∀ W, Below w1.heap.size w1 W → N4 W b (i * 4) (E i)) := fun W hW => by have := HRD.out W hW i hin; rwa [Nat.zero_add] at this
       have HPM : Hid (pth E i = (E i).path.data.toList) := rfl
       obtain ⟨e1, he1⟩ : ∃ e1, E i = e1 := ⟨_, rfl⟩
       have HEI : Hid (E i = e1) := he1
       rw [he1] at c0 c1 c2 c3 HPM HCI0
       clear he1
       obtain ⟨M, kM, dM, xM⟩ := e1
       simp only at c0 c1 c2 c3 HPM
       have HCI : Hid (∀ W, Below w1.heap.size w1 W → W.cell? ⟨b, i * 4, none⟩ = some (.string M) ∧ W.cell? ⟨b, i * 4 + 1, none⟩ = some (.int .i64 kM) ∧ W.cell? ⟨b, i * 4 + 2, none⟩ = some (.string dM) ∧ W.cell? ⟨b, i * 4 + 3, none⟩ = some (.bool xM)) := HCI0
       clear HCI0
       rcases Nat.lt_trichotomy i a with hia | hia | hia
       ·have hdf : db = false := hdb.trans (decide_eq_false (by omega))
        clear hdb
        subst hdf
        have hbl : Op.bytesLess M.toList P.toList = true := bl_yes (by rw [← HPM.out]; exact HRK.out.lo i hia)
        have heq : (M.toList == P.toList) = false := by
         rw [ByteArray.toList_eq, ByteArray.toList_eq, beq_eq_false_iff_ne]
         intro e
         exact absurd (HRK.out.lo i hia) (by rw [HPM.out, e]; exact List.lt_irrefl _)
        go_wp2_with fail
        go_quiet (fail)
        go_wp2_with fail
        go_quiet (fail)
        clear c0 c1 c2 c3 q0 q1 q2 q3
        generalize hwq : World.drewN (World.drewN wr _) _ = wq
        have HQ : Hid (Below wr.heap.size wr wq) := by rw [← hwq]; exact bel_dn2 _ _ _
        have hsq : wr.heap.size ≤ wq.heap.size := HQ.out.size
        clear hwq
        have HBwq : Hid (Below w1.heap.size w1 wq) := HBE.out.trans (HQ.out.mono HBE.out.size)
        have HOwq : Hid (wq.ownsRow bs 62 4 (.slice at7 c cp7) c (enC F c)) := own_below HOW.out HQ.out
        obtain ⟨c0, c1, c2, c3⟩ := HCI.out _ HBwq.out
        obtain ⟨q0, q1, q2, q3⟩ := HX.out _ HBwq.out
        have HFC : Hid (F c = ⟨M, kM, dM, xM⟩) := by
         have h1 : c = i := by rw [← HCN.out]; unfold cnt; rw [if_neg (by omega)]
         rw [h1]
         exact (HFL.out i hia).trans HEI.out
        have HOAw6 : Hid (∀ ob, (wq.alloc ob).ownsRow bs 62 4 (.slice at7 c cp7) c (enC F c)) := fun ob => own_below HOwq.out ((Below.refl _ _).alloc (Nat.le_refl _) _)
        have HBAw6 : Hid (∀ ob, Below w1.heap.size w1 (wq.alloc ob)) := fun ob => HBwq.out.alloc HBwq.out.size _
        have HSAw6 : Hid (∀ ob, bs ≤ (wq.alloc ob).heap.size) := fun ob => by rw [World.size_alloc]; omega
        have HCw6 : Hid (c ≤ 2000000) := by show _ ≤ _; omega
        have HNXw6 : Hid (enC F (c + 1) = enC F c ++ [.string M, .int .i64 kM, .string dM, .bool xM]) := by show _ = _; rw [enC_succ, HFC.out]
        go_wp2_with (first
         | (at_builtin; refine app_ent _ rfl _ _ rfl bs _ _ _ rfl (HOAw6.out _) HNN.out ⟨wq.heap.size, 0, none⟩ 1 (.string M) (.int .i64 kM) (.string dM) (.bool xM) rfl (four_at _ _ rfl _ _ _ _ _) (four_one M kM dM xM) HCw6.out (HSAw6.out _) ?_; intro v6 w6 hownw6 hvw6 hgw6; refine Hid.out ?_)
         | go_in)
        refine Lib.hid ?_
        have HBw6 : Hid (Below w1.heap.size w1 w6) := (HBAw6.out _).grown hgw6 (HBAw6.out _).size (fun q hq => Nat.le_trans HWB.out ((HOAw6.out (.cells #[.string M, .int .i64 kM, .string dM, .bool xM] 62)).lt q hq).1)
        have HOw6 : Hid (w6.ownsRow bs 62 4 v6 (c + 1) (enC F (c + 1))) := by rw [HNXw6.out]; exact hownw6
        have HVw6 : Hid (v6 ≠ .slice none 0 0) := hvw6
        have hsw6 : bs ≤ w6.heap.size := Nat.le_trans (HSAw6.out _) hgw6.size
        clear hownw6 hvw6 hgw6
        have HCT : Hid (cnt th a (i + 1) = c + 1) := by
         show _ = _
         rw [← HCN.out]
         unfold cnt
         rw [if_neg (by omega), if_neg (by omega)]
        clear c0 c1 c2 c3 q0 q1 q2 q3
        go_wp2
        go_roundw
        case rel => exact ⟨i + 1, false, by omega, by go_num, by first | rfl | trivial, (decide_eq_false (by omega)).symm, by rw [HCT.out]; exact HOw6.out, HVw6.out, HBw6.out, hsw6⟩
        case measure => simp [intOf] <;> omega
       ·subst hia
        have hdf : db = false := hdb.trans (decide_eq_false (by omega))
        clear hdb
        subst hdf
        have hbl : Op.bytesLess M.toList P.toList = false := bl_no (by rw [← HPM.out]; exact HRK.out.hi i (Nat.le_refl _) hin)
        go_wp2_with fail
        go_quiet (fail)
        clear c0 c1 c2 c3 q0 q1 q2 q3
        generalize hwq : World.drewN wr _ = wq
        have HQ : Hid (Below wr.heap.size wr wq) := by rw [← hwq]; exact bel_dn _ _
        have hsq : wr.heap.size ≤ wq.heap.size := HQ.out.size
        clear hwq
        have HBwq : Hid (Below w1.heap.size w1 wq) := HBE.out.trans (HQ.out.mono HBE.out.size)
        have HOwq : Hid (wq.ownsRow bs 62 4 (.slice at7 c cp7) c (enC F c)) := own_below HOW.out HQ.out
        obtain ⟨c0, c1, c2, c3⟩ := HCI.out _ HBwq.out
        obtain ⟨q0, q1, q2, q3⟩ := HX.out _ HBwq.out
        have HCA : Hid (c = i) := by show _ = _; rw [← HCN.out]; unfold cnt; rw [if_neg (by omega)]
        have HFC : Hid (F c = ⟨P, 1, d, x⟩) := by
         show _ = _
         rw [HCA.out, HFA.out]
        have HOAw5 : Hid (∀ ob, (wq.alloc ob).ownsRow bs 62 4 (.slice at7 c cp7) c (enC F c)) := fun ob => own_below HOwq.out ((Below.refl _ _).alloc (Nat.le_refl _) _)
        have HBAw5 : Hid (∀ ob, Below w1.heap.size w1 (wq.alloc ob)) := fun ob => HBwq.out.alloc HBwq.out.size _
        have HSAw5 : Hid (∀ ob, bs ≤ (wq.alloc ob).heap.size) := fun ob => by rw [World.size_alloc]; omega
        have HCw5 : Hid (c ≤ 2000000) := by show _ ≤ _; omega
        have HNXw5 : Hid (enC F (c + 1) = enC F c ++ [.string P, .int .i64 1, .string d, .bool x]) := by show _ = _; rw [enC_succ, HFC.out]
        go_wp2_with (first
         | (at_builtin; refine app_ent _ rfl _ _ rfl bs _ _ _ rfl (HOAw5.out _) HNN.out ⟨wq.heap.size, 0, none⟩ 1 (.string P) (.int .i64 1) (.string d) (.bool x) rfl (four_at _ _ rfl _ _ _ _ _) (four_one P 1 d x) HCw5.out (HSAw5.out _) ?_; intro v5 w5 hownw5 hvw5 hgw5; refine Hid.out ?_)
         | go_in)
        refine Lib.hid ?_
        have HBw5 : Hid (Below w1.heap.size w1 w5) := (HBAw5.out _).grown hgw5 (HBAw5.out _).size (fun q hq => Nat.le_trans HWB.out ((HOAw5.out (.cells #[.string P, .int .i64 1, .string d, .bool x] 62)).lt q hq).1)
        have HOw5 : Hid (w5.ownsRow bs 62 4 v5 (c + 1) (enC F (c + 1))) := by rw [HNXw5.out]; exact hownw5
        have HVw5 : Hid (v5 ≠ .slice none 0 0) := hvw5
        have hsw5 : bs ≤ w5.heap.size := Nat.le_trans (HSAw5.out _) hgw5.size
        clear hownw5 hvw5 hgw5
        clear c0 c1 c2 c3 q0 q1 q2 q3
        obtain ⟨c0, c1, c2, c3⟩ := HCI.out _ HBw5.out
        obtain ⟨q0, q1, q2, q3⟩ := HX.out _ HBw5.out
        obtain ⟨a5, cp5, hv5⟩ := own_shape HOw5.out
        subst hv5
        by_cases ht : M.data.toList = P.data.toList
        ·have heq : (M.toList == P.toList) = true := by rw [ByteArray.toList_eq, ByteArray.toList_eq]; simpa using ht
         have HT1 : Hid (th = true) := HTH.out.2 ⟨hin, HPM.out.trans ht⟩
         have HCT : Hid (cnt th i (i + 1) = c + 1) := by
          show _ = _
          rw [HCA.out]
          unfold cnt
          rw [if_pos (by omega), if_pos HT1.out]
         clear ht
         go_wp2_with fail
         go_quiet (fail)
         clear c0 c1 c2 c3 q0 q1 q2 q3
         generalize hwqz : World.drewN w5 _ = wz
         have HQz : Hid (Below w5.heap.size w5 wz) := by rw [← hwqz]; exact bel_dn _ _
         have hsqz : w5.heap.size ≤ wz.heap.size := HQz.out.size
         clear hwqz
         have HBwz : Hid (Below w1.heap.size w1 wz) := HBw5.out.trans (HQz.out.mono HBw5.out.size)
         have HOwz : Hid (wz.ownsRow bs 62 4 (.slice a5 (c + 1) cp5) (c + 1) (enC F (c + 1))) := own_below HOw5.out HQz.out
         go_wp2
         go_roundw
         case rel => exact ⟨i + 1, true, by omega, by go_num, by first | rfl | trivial, (decide_eq_true (by omega)).symm, by rw [HCT.out]; exact HOwz.out, HVw5.out, HBwz.out, by omega⟩
         case measure => simp [intOf] <;> omega
        ·have heq : (M.toList == P.toList) = false := by rw [ByteArray.toList_eq, ByteArray.toList_eq, beq_eq_false_iff_ne]; exact ht
         have HT0 : Hid (¬ th = true) := fun h => ht (HPM.out.symm.trans (HTH.out.1 h).2)
         have HCT : Hid (cnt th i (i + 1) = c + 1 + 1) := by
          show _ = _
          rw [HCA.out]
          unfold cnt
          rw [if_pos (by omega), if_neg HT0.out]
         have HFD : Hid (F (c + 1) = ⟨M, kM, dM, xM⟩) := by
          show _ = _
          rw [HFG.out (c + 1) (by have := HCA.out; omega), if_neg HT0.out, show c + 1 - 1 = c from rfl, HCA.out]
          exact HEI.out
         clear ht
         go_wp2_with fail
         go_quiet (fail)
         clear c0 c1 c2 c3 q0 q1 q2 q3
         generalize hwqz : World.drewN w5 _ = wz
         have HQz : Hid (Below w5.heap.size w5 wz) := by rw [← hwqz]; exact bel_dn _ _
         have hsqz : w5.heap.size ≤ wz.heap.size := HQz.out.size
         clear hwqz
         have HBwz : Hid (Below w1.heap.size w1 wz) := HBw5.out.trans (HQz.out.mono HBw5.out.size)
         have HOwz : Hid (wz.ownsRow bs 62 4 (.slice a5 (c + 1) cp5) (c + 1) (enC F (c + 1))) := own_below HOw5.out HQz.out
         obtain ⟨c0, c1, c2, c3⟩ := HCI.out _ HBwz.out
         obtain ⟨q0, q1, q2, q3⟩ := HX.out _ HBwz.out
         have HOAw6 : Hid (∀ ob, (wz.alloc ob).ownsRow bs 62 4 (.slice a5 (c + 1) cp5) (c + 1) (enC F (c + 1))) := fun ob => own_below HOwz.out ((Below.refl _ _).alloc (Nat.le_refl _) _)
         have HBAw6 : Hid (∀ ob, Below w1.heap.size w1 (wz.alloc ob)) := fun ob => HBwz.out.alloc HBwz.out.size _
         have HSAw6 : Hid (∀ ob, bs ≤ (wz.alloc ob).heap.size) := fun ob => by rw [World.size_alloc]; omega
         have HCw6 : Hid ((c + 1) ≤ 2000000) := by show _ ≤ _; omega
         have HNXw6 : Hid (enC F ((c + 1) + 1) = enC F (c + 1) ++ [.string M, .int .i64 kM, .string dM, .bool xM]) := by show _ = _; rw [enC_succ, HFD.out]
         go_wp2_with (first
          | (at_builtin; refine app_ent _ rfl _ _ rfl bs _ _ _ rfl (HOAw6.out _) HVw5.out ⟨wz.heap.size, 0, none⟩ 1 (.string M) (.int .i64 kM) (.string dM) (.bool xM) rfl (four_at _ _ rfl _ _ _ _ _) (four_one M kM dM xM) HCw6.out (HSAw6.out _) ?_; intro v6 w6 hownw6 hvw6 hgw6; refine Hid.out ?_)
          | go_in)
         refine Lib.hid ?_
         have HBw6 : Hid (Below w1.heap.size w1 w6) := (HBAw6.out _).grown hgw6 (HBAw6.out _).size (fun q hq => Nat.le_trans HWB.out ((HOAw6.out (.cells #[.string M, .int .i64 kM, .string dM, .bool xM] 62)).lt q hq).1)
         have HOw6 : Hid (w6.ownsRow bs 62 4 v6 ((c + 1) + 1) (enC F ((c + 1) + 1))) := by rw [HNXw6.out]; exact hownw6
         have HVw6 : Hid (v6 ≠ .slice none 0 0) := hvw6
         have hsw6 : bs ≤ w6.heap.size := Nat.le_trans (HSAw6.out _) hgw6.size
         clear hownw6 hvw6 hgw6
         clear c0 c1 c2 c3 q0 q1 q2 q3
         go_wp2
         go_roundw
         case rel => exact ⟨i + 1, true, by omega, by go_num, by first | rfl | trivial, (decide_eq_true (by omega)).symm, by rw [HCT.out]; exact HOw6.out, HVw6.out, HBw6.out, hsw6⟩
         case measure => simp [intOf] <;> omega
       ·have hdf : db = true := hdb.trans (decide_eq_true (by omega))
        clear hdb
        subst hdf
        have heq : (M.toList == P.toList) = false := by
         rw [ByteArray.toList_eq, ByteArray.toList_eq, beq_eq_false_iff_ne]
         intro e
         exact HRK.out.hi a (Nat.le_refl _) (by omega) (by have := HAS.out a i hia hin; rw [HPM.out, e] at this; exact this)
        go_wp2_with fail
        go_quiet (fail)
        go_wp2_with fail
        go_quiet (fail)
        clear c0 c1 c2 c3 q0 q1 q2 q3
        generalize hwq : World.drewN (World.drewN wr _) _ = wq
        have HQ : Hid (Below wr.heap.size wr wq) := by rw [← hwq]; exact bel_dn2 _ _ _
        have hsq : wr.heap.size ≤ wq.heap.size := HQ.out.size
        clear hwq
        have HBwq : Hid (Below w1.heap.size w1 wq) := HBE.out.trans (HQ.out.mono HBE.out.size)
        have HOwq : Hid (wq.ownsRow bs 62 4 (.slice at7 c cp7) c (enC F c)) := own_below HOW.out HQ.out
        obtain ⟨c0, c1, c2, c3⟩ := HCI.out _ HBwq.out
        obtain ⟨q0, q1, q2, q3⟩ := HX.out _ HBwq.out
        have HFC : Hid (F c = ⟨M, kM, dM, xM⟩) := by
         have hc := HCN.out
         unfold cnt at hc
         rw [if_pos hia] at hc
         have hac : a < c := by split at hc <;> omega
         show _ = _
         rw [HFG.out c hac]
         by_cases ht : th = true
         ·rw [if_pos ht] at hc ⊢
          rw [← hc]
          exact HEI.out
         ·rw [if_neg ht] at hc ⊢
          rw [← hc]
          exact HEI.out
        have HOAw6 : Hid (∀ ob, (wq.alloc ob).ownsRow bs 62 4 (.slice at7 c cp7) c (enC F c)) := fun ob => own_below HOwq.out ((Below.refl _ _).alloc (Nat.le_refl _) _)
        have HBAw6 : Hid (∀ ob, Below w1.heap.size w1 (wq.alloc ob)) := fun ob => HBwq.out.alloc HBwq.out.size _
        have HSAw6 : Hid (∀ ob, bs ≤ (wq.alloc ob).heap.size) := fun ob => by rw [World.size_alloc]; omega
        have HCw6 : Hid (c ≤ 2000000) := by show _ ≤ _; omega
        have HNXw6 : Hid (enC F (c + 1) = enC F c ++ [.string M, .int .i64 kM, .string dM, .bool xM]) := by show _ = _; rw [enC_succ, HFC.out]
        go_wp2_with (first
         | (at_builtin; refine app_ent _ rfl _ _ rfl bs _ _ _ rfl (HOAw6.out _) HNN.out ⟨wq.heap.size, 0, none⟩ 1 (.string M) (.int .i64 kM) (.string dM) (.bool xM) rfl (four_at _ _ rfl _ _ _ _ _) (four_one M kM dM xM) HCw6.out (HSAw6.out _) ?_; intro v6 w6 hownw6 hvw6 hgw6; refine Hid.out ?_)
         | go_in)
        refine Lib.hid ?_
        have HBw6 : Hid (Below w1.heap.size w1 w6) := (HBAw6.out _).grown hgw6 (HBAw6.out _).size (fun q hq => Nat.le_trans HWB.out ((HOAw6.out (.cells #[.string M, .int .i64 kM, .string dM, .bool xM] 62)).lt q hq).1)
        have HOw6 : Hid (w6.ownsRow bs 62 4 v6 (c + 1) (enC F (c + 1))) := by rw [HNXw6.out]; exact hownw6
        have HVw6 : Hid (v6 ≠ .slice none 0 0) := hvw6
        have hsw6 : bs ≤ w6.heap.size := Nat.le_trans (HSAw6.out _) hgw6.size
        clear hownw6 hvw6 hgw6
        have HCT : Hid (cnt th a (i + 1) = c + 1) := by
         show _ = _
         rw [← HCN.out]
         unfold cnt
         rw [if_pos (by omega), if_pos hia]
         split <;> omega
        clear c0 c1 c2 c3 q0 q1 q2 q3
        go_wp2
        go_roundw
        case rel => exact ⟨i + 1, true, by omega, by go_num, by first | rfl | trivial, (decide_eq_true (by omega)).symm, by rw [HCT.out]; exact HOw6.out, HVw6.out, HBw6.out, hsw6⟩
        case measure => simp [intOf] <;> omega
      ·have HIN : Hid (i = n) := by show _ = _; omega
       have hin' : ¬ (i : Int) < (n : Int) := by omega
       by_cases haln : a < n
       ·have hdf : db = true := hdb.trans (decide_eq_true (by have := HIN.out; omega))
        clear hdb
        subst hdf
        have HCP : Hid (c = ptN E n ⟨P, 1, d, x⟩ a) := by
         show _ = _
         rw [HPN.out, ← HCN.out, HIN.out]
         unfold cnt
         rw [if_pos haln]
        have hbb : c ≤ 1001 := by omega
        by_cases hbig : 500 < c
        ·have hbig' : (500 : Int) < ((c : Nat) : Int) := by omega
         obtain ⟨e1, e2, e3⟩ := HNO.out (tkB_no fun h => by
          have h4 := h.2.2.2
          have hcp := HCP.out
          rw [HPN.out] at hcp
          rcases h4 with h4 | h4
          ·rw [if_pos (HTH.out.2 h4)] at hcp; omega
          ·split at hcp <;> omega)
         subst e1 e2 e3
         go_wp2_with (go_at_call 85; refine (HCC.out _ HBE.out).mono ?_; rintro e w9 ⟨⟨v9, rfl, hown9, hv9⟩, hl9⟩; have HR9 : Hid (RowE wr.heap.size w9 v9 RN RF) := own_rowE hown9 hv9; have HB9 : Hid (Below w1.heap.size w1 w9) := HBE.out.trans (hl9.mono HBE.out.size); clear hown9 hv9)
         go_ret2
         exact ⟨⟨_, rfl, rowE_mono HR9.out (HUP.out _ HBE.out).size⟩, HUP.out _ HB9.out⟩
        ·have hbig' : ¬ (500 : Int) < ((c : Nat) : Int) := by omega
         obtain ⟨e1, e2, e3⟩ := HYES.out (tkB_yes ⟨HEO.out, HUD.out, HKF.out, by
          have hcp := HCP.out
          rw [HPN.out] at hcp
          by_cases ht : th = true
          ·exact .inl (HTH.out.1 ht)
          ·rw [if_neg ht] at hcp
           exact .inr (by omega)⟩)
         have HRW : Hid (RowE bs wr (.slice at7 c cp7) RN RF) := by
          have h := own_rowE HOW.out HNN.out
          rw [e2.trans HCP.out.symm, e3, HFF.out]
          exact h
         clear e2 e3
         subst e1
         have HWW : Hid (w.heap.size ≤ bs) := Nat.le_trans HB1.out.size HWB.out
         go_wp2
         go_ret2
         exact ⟨⟨_, rfl, rowE_mono HRW.out HWW.out⟩, HUP.out _ HBE.out⟩
       ·have hdf : db = false := hdb.trans (decide_eq_false (by have := HIN.out; omega))
        clear hdb
        subst hdf
        have HT0 : Hid (¬ th = true) := fun h => haln (HTH.out.1 h).1
        have HCA : Hid (c = i) := by show _ = _; rw [← HCN.out]; unfold cnt; rw [if_neg (by have := HIN.out; omega)]
        have HFC : Hid (F c = ⟨P, 1, d, x⟩) := by
         have h1 : c = a := by have := HCA.out; have := HIN.out; omega
         show _ = _
         rw [h1, HFA.out]
        have HCP : Hid (c + 1 = ptN E n ⟨P, 1, d, x⟩ a) := by
         show _ = _
         rw [HPN.out, if_neg HT0.out, HCA.out, HIN.out]
        have HOAw5 : Hid (∀ ob, (wr.alloc ob).ownsRow bs 62 4 (.slice at7 c cp7) c (enC F c)) := fun ob => own_below HOW.out ((Below.refl _ _).alloc (Nat.le_refl _) _)
        have HBAw5 : Hid (∀ ob, Below w1.heap.size w1 (wr.alloc ob)) := fun ob => HBE.out.alloc HBE.out.size _
        have HSAw5 : Hid (∀ ob, bs ≤ (wr.alloc ob).heap.size) := fun ob => by rw [World.size_alloc]; omega
        have HCw5 : Hid (c ≤ 2000000) := by show _ ≤ _; omega
        have HNXw5 : Hid (enC F (c + 1) = enC F c ++ [.string P, .int .i64 1, .string d, .bool x]) := by show _ = _; rw [enC_succ, HFC.out]
        go_wp2_with (first
         | (at_builtin; refine app_ent _ rfl _ _ rfl bs _ _ _ rfl (HOAw5.out _) HNN.out ⟨wr.heap.size, 0, none⟩ 1 (.string P) (.int .i64 1) (.string d) (.bool x) rfl (four_at _ _ rfl _ _ _ _ _) (four_one P 1 d x) HCw5.out (HSAw5.out _) ?_; intro v5 w5 hownw5 hvw5 hgw5; refine Hid.out ?_)
         | go_in)
        refine Lib.hid ?_
        have HBw5 : Hid (Below w1.heap.size w1 w5) := (HBAw5.out _).grown hgw5 (HBAw5.out _).size (fun q hq => Nat.le_trans HWB.out ((HOAw5.out (.cells #[.string P, .int .i64 1, .string d, .bool x] 62)).lt q hq).1)
        have HOw5 : Hid (w5.ownsRow bs 62 4 v5 (c + 1) (enC F (c + 1))) := by rw [HNXw5.out]; exact hownw5
        have HVw5 : Hid (v5 ≠ .slice none 0 0) := hvw5
        have hsw5 : bs ≤ w5.heap.size := Nat.le_trans (HSAw5.out _) hgw5.size
        clear hownw5 hvw5 hgw5
        obtain ⟨a5, cp5, hv5⟩ := own_shape HOw5.out
        subst hv5
        have hbb : (c + 1) ≤ 1001 := by omega
        by_cases hbig : 500 < (c + 1)
        ·have hbig' : (500 : Int) < (((c + 1) : Nat) : Int) := by omega
         obtain ⟨e1, e2, e3⟩ := HNO.out (tkB_no fun h => by
          have h4 := h.2.2.2
          have hcp := HCP.out
          rw [HPN.out] at hcp
          rcases h4 with h4 | h4
          ·rw [if_pos (HTH.out.2 h4)] at hcp; omega
          ·split at hcp <;> omega)
         subst e1 e2 e3
         go_wp2_with (go_at_call 85; refine (HCC.out _ HBw5.out).mono ?_; rintro e w9 ⟨⟨v9, rfl, hown9, hv9⟩, hl9⟩; have HR9 : Hid (RowE w5.heap.size w9 v9 RN RF) := own_rowE hown9 hv9; have HB9 : Hid (Below w1.heap.size w1 w9) := HBw5.out.trans (hl9.mono HBw5.out.size); clear hown9 hv9)
         go_ret2
         exact ⟨⟨_, rfl, rowE_mono HR9.out (HUP.out _ HBw5.out).size⟩, HUP.out _ HB9.out⟩
        ·have hbig' : ¬ (500 : Int) < (((c + 1) : Nat) : Int) := by omega
         obtain ⟨e1, e2, e3⟩ := HYES.out (tkB_yes ⟨HEO.out, HUD.out, HKF.out, by
          have hcp := HCP.out
          rw [HPN.out] at hcp
          by_cases ht : th = true
          ·exact .inl (HTH.out.1 ht)
          ·rw [if_neg ht] at hcp
           exact .inr (by omega)⟩)
         have HRW : Hid (RowE bs w5 (.slice a5 (c + 1) cp5) RN RF) := by
          have h := own_rowE HOw5.out HVw5.out
          rw [e2.trans HCP.out.symm, e3, HFF.out]
          exact h
         clear e2 e3
         subst e1
         have HWW : Hid (w.heap.size ≤ bs) := Nat.le_trans HB1.out.size HWB.out
         go_wp2
         go_ret2
         exact ⟨⟨_, rfl, rowE_mono HRW.out HWW.out⟩, HUP.out _ HBw5.out⟩
    ·have hk2 : (k == 1) = false := by rw [beq_eq_false_iff_ne]; exact hk
     cases hf : fullB E n P.data.toList with
     | true =>
      rw [hf] at HCF
      obtain ⟨e1, e2, e3⟩ := HNO.out (tkB_no fun h => by rcases h.2.2.1 with h3 | h3; exact hk h3; exact h3 (fullB_iff.1 hf))
      subst e1 e2 e3
      clear hf
      go_wp2_with (first
       | (go_at_call 82; refine (HCE.out _).mono ?_; rintro e w4 ⟨rfl, hl4⟩; have hb4 : Below w1.heap.size w1 w4 := HB2.out.trans (hl4.mono HB2.out.size); obtain ⟨z0q, z1q, -, -⟩ := HX.out _ hb4)
       | (go_at_call 83; refine (HCD.out _ hb4).mono ?_; rintro e w3 ⟨rfl, hl3⟩; have hb3 : Below w1.heap.size w1 w3 := hb4.trans (hl3.mono hb4.size); obtain ⟨z0, z1, -, -⟩ := HX.out _ hb3)
       | (go_at_call 84; refine (HCF.out _ hb3).mono ?_; rintro e wf ⟨rfl, hwf⟩; obtain rfl := hwf.symm; clear hwf)
       | (go_at_call 85; refine (HCC.out _ hb3).mono ?_; rintro e w9 ⟨⟨v9, rfl, hown9, hv9⟩, hl9⟩; have HR9 : Hid (RowE w3.heap.size w9 v9 RN RF) := own_rowE hown9 hv9; have HB9 : Hid (Below w1.heap.size w1 w9) := hb3.trans (hl9.mono hb3.size); clear hown9 hv9))
      go_ret2
      exact ⟨⟨_, rfl, rowE_mono HR9.out (HUP.out _ hb3).size⟩, HUP.out _ HB9.out⟩
     | false =>
      rw [hf] at HCF
      have HKF : Hid (KF E n ⟨P, k, d, x⟩) := Or.inr fun h => by rw [fullB_yes h] at hf; cases hf
      clear hf
      go_wp2_with (first
       | (go_at_call 82; refine (HCE.out _).mono ?_; rintro e w4 ⟨rfl, hl4⟩; have hb4 : Below w1.heap.size w1 w4 := HB2.out.trans (hl4.mono HB2.out.size); obtain ⟨z0q, z1q, -, -⟩ := HX.out _ hb4)
       | (go_at_call 83; refine (HCD.out _ hb4).mono ?_; rintro e w3 ⟨rfl, hl3⟩; have hb3 : Below w1.heap.size w1 w3 := hb4.trans (hl3.mono hb4.size); obtain ⟨z0, z1, -, -⟩ := HX.out _ hb3)
       | (go_at_call 84; refine (HCF.out _ hb3).mono ?_; rintro e wf ⟨rfl, hwf⟩; obtain rfl := hwf.symm; clear hwf; have HB3 : Hid (Below w1.heap.size w1 w3) := hb3; refine Hid.out ?_))
      refine Lib.hid ?_
      clear hl2 hl3 hb3 y0 y1 y2 y3 hl4 hb4 z0q z1q
      obtain ⟨th, hth⟩ : ∃ th, isB E n P.data.toList a = th := ⟨_, rfl⟩
      have HTH : Hid (th = true ↔ Is E n P.data.toList a) := by rw [← hth]; exact isB_iff
      obtain ⟨F, hF⟩ : ∃ F, ptF E n ⟨P, k, d, x⟩ a = F := ⟨_, rfl⟩
      have HFF : Hid (ptF E n ⟨P, k, d, x⟩ a = F) := hF
      have HFL : Hid (∀ j, j < a → F j = E j) := fun j hj => by rw [← hF]; exact pt_lt hj
      have HFA : Hid (F a = ⟨P, k, d, x⟩) := by rw [← hF]; exact pt_at E n a _
      have HFG : Hid (∀ j, a < j → F j = if th = true then E j else E (j - 1)) := fun j hj => by rw [← hF, ← hth]; exact pt_gt hj
      have HPN : Hid (ptN E n ⟨P, k, d, x⟩ a = if th = true then n else n + 1) := by rw [← hth]; show _ = _; rfl
      obtain ⟨bs, hbs⟩ : ∃ bs, bs = w3.heap.size := ⟨_, rfl⟩
      have HO0 : Hid ((w3.alloc (.cells #[] 62)).ownsRow bs 62 4 (.slice (some ⟨w3.heap.size, 0, none⟩) 0 0) 0 (enC F 0)) := by rw [hbs]; exact made_own w3 0 (by omega) #[] rfl
      have HBA0 : Hid (Below w1.heap.size w1 (w3.alloc (.cells #[] 62))) := HB3.out.alloc HB3.out.size _
      have HS0 : Hid (bs ≤ (w3.alloc (.cells #[] 62)).heap.size) := by show _ ≤ _; rw [World.size_alloc]; omega
      have HWB : Hid (w1.heap.size ≤ bs) := by rw [hbs]; exact HB3.out.size
      clear hF hth hbs
      go_wp2
      clear z0 z1
      go_loopw [7, 8, 9] (fun v dn x wr => ∃ (i : Nat) (db : Bool), i ≤ n ∧ x = .int .i64 (i : Int) ∧ dn = .bool db ∧ db = decide (a < i) ∧ wr.ownsRow bs 62 4 v (cnt th a i) (enC F (cnt th a i)) ∧ v ≠ .slice none 0 0 ∧ Below w1.heap.size w1 wr ∧ bs ≤ wr.heap.size) (fun _ _ x _ => n - (intOf x).toNat)
      case atStart => exact ⟨0, false, Nat.zero_le _, rfl, rfl, by simp, by simpa [cnt] using HO0.out, (by intro e; cases e), HBA0.out, HS0.out⟩
      case round =>
       obtain ⟨i, db, hi, rfl, rfl, hdb, hown, hvn, hbel, hbsw⟩ := hrel
       obtain ⟨at7, cp7, hv7⟩ := own_shape hown
       obtain ⟨c, hc⟩ : ∃ c, cnt th a i = c := ⟨_, rfl⟩
       rw [hc] at hown hv7
       subst hv7
       have HOW : Hid (wr.ownsRow bs 62 4 (.slice at7 c cp7) c (enC F c)) := hown
       have HNN : Hid (Value.slice at7 c cp7 ≠ .slice none 0 0) := hvn
       have HBE : Hid (Below w1.heap.size w1 wr) := hbel
       have HCN : Hid (cnt th a i = c) := hc
       have hcb : c ≤ 1000 := by have := cnt_le th a i; omega
       obtain ⟨q0, q1, q2, q3⟩ := HX.out _ hbel
       clear hown hvn hbel hc
       by_cases hin : i < n
       ·have hin' : (i : Int) < (n : Int) := by omega
        have hi0 : (0 : Int) ≤ (i : Int) := by omega
        obtain ⟨c0, c1, c2, c3⟩ := HRD.out _ HBE.out i hin
        rw [Nat.zero_add] at c0 c1 c2 c3
        have HCI0 : Hid (∀ W, Below w1.heap.size w1 W → N4 W b (i * 4) (E i)) := fun W hW => by have := HRD.out W hW i hin; rwa [Nat.zero_add] at this
        have HPM : Hid (pth E i = (E i).path.data.toList) := rfl
        obtain ⟨e1, he1⟩ : ∃ e1, E i = e1 := ⟨_, rfl⟩
        have HEI : Hid (E i = e1) := he1
        rw [he1] at c0 c1 c2 c3 HPM HCI0
        clear he1
        obtain ⟨M, kM, dM, xM⟩ := e1
        simp only at c0 c1 c2 c3 HPM
        have HCI : Hid (∀ W, Below w1.heap.size w1 W → W.cell? ⟨b, i * 4, none⟩ = some (.string M) ∧ W.cell? ⟨b, i * 4 + 1, none⟩ = some (.int .i64 kM) ∧ W.cell? ⟨b, i * 4 + 2, none⟩ = some (.string dM) ∧ W.cell? ⟨b, i * 4 + 3, none⟩ = some (.bool xM)) := HCI0
        clear HCI0
        rcases Nat.lt_trichotomy i a with hia | hia | hia
        ·have hdf : db = false := hdb.trans (decide_eq_false (by omega))
         clear hdb
         subst hdf
         have hbl : Op.bytesLess M.toList P.toList = true := bl_yes (by rw [← HPM.out]; exact HRK.out.lo i hia)
         have heq : (M.toList == P.toList) = false := by
          rw [ByteArray.toList_eq, ByteArray.toList_eq, beq_eq_false_iff_ne]
          intro e
          exact absurd (HRK.out.lo i hia) (by rw [HPM.out, e]; exact List.lt_irrefl _)
         go_wp2_with fail
         go_quiet (fail)
         go_wp2_with fail
         go_quiet (fail)
         clear c0 c1 c2 c3 q0 q1 q2 q3
         generalize hwq : World.drewN (World.drewN wr _) _ = wq
         have HQ : Hid (Below wr.heap.size wr wq) := by rw [← hwq]; exact bel_dn2 _ _ _
         have hsq : wr.heap.size ≤ wq.heap.size := HQ.out.size
         clear hwq
         have HBwq : Hid (Below w1.heap.size w1 wq) := HBE.out.trans (HQ.out.mono HBE.out.size)
         have HOwq : Hid (wq.ownsRow bs 62 4 (.slice at7 c cp7) c (enC F c)) := own_below HOW.out HQ.out
         obtain ⟨c0, c1, c2, c3⟩ := HCI.out _ HBwq.out
         obtain ⟨q0, q1, q2, q3⟩ := HX.out _ HBwq.out
         have HFC : Hid (F c = ⟨M, kM, dM, xM⟩) := by
          have h1 : c = i := by rw [← HCN.out]; unfold cnt; rw [if_neg (by omega)]
          rw [h1]
          exact (HFL.out i hia).trans HEI.out
         have HOAw6 : Hid (∀ ob, (wq.alloc ob).ownsRow bs 62 4 (.slice at7 c cp7) c (enC F c)) := fun ob => own_below HOwq.out ((Below.refl _ _).alloc (Nat.le_refl _) _)
         have HBAw6 : Hid (∀ ob, Below w1.heap.size w1 (wq.alloc ob)) := fun ob => HBwq.out.alloc HBwq.out.size _
         have HSAw6 : Hid (∀ ob, bs ≤ (wq.alloc ob).heap.size) := fun ob => by rw [World.size_alloc]; omega
         have HCw6 : Hid (c ≤ 2000000) := by show _ ≤ _; omega
         have HNXw6 : Hid (enC F (c + 1) = enC F c ++ [.string M, .int .i64 kM, .string dM, .bool xM]) := by show _ = _; rw [enC_succ, HFC.out]
         go_wp2_with (first
          | (at_builtin; refine app_ent _ rfl _ _ rfl bs _ _ _ rfl (HOAw6.out _) HNN.out ⟨wq.heap.size, 0, none⟩ 1 (.string M) (.int .i64 kM) (.string dM) (.bool xM) rfl (four_at _ _ rfl _ _ _ _ _) (four_one M kM dM xM) HCw6.out (HSAw6.out _) ?_; intro v6 w6 hownw6 hvw6 hgw6; refine Hid.out ?_)
          | go_in)
         refine Lib.hid ?_
         have HBw6 : Hid (Below w1.heap.size w1 w6) := (HBAw6.out _).grown hgw6 (HBAw6.out _).size (fun q hq => Nat.le_trans HWB.out ((HOAw6.out (.cells #[.string M, .int .i64 kM, .string dM, .bool xM] 62)).lt q hq).1)
         have HOw6 : Hid (w6.ownsRow bs 62 4 v6 (c + 1) (enC F (c + 1))) := by rw [HNXw6.out]; exact hownw6
         have HVw6 : Hid (v6 ≠ .slice none 0 0) := hvw6
         have hsw6 : bs ≤ w6.heap.size := Nat.le_trans (HSAw6.out _) hgw6.size
         clear hownw6 hvw6 hgw6
         have HCT : Hid (cnt th a (i + 1) = c + 1) := by
          show _ = _
          rw [← HCN.out]
          unfold cnt
          rw [if_neg (by omega), if_neg (by omega)]
         clear c0 c1 c2 c3 q0 q1 q2 q3
         go_wp2
         go_roundw
         case rel => exact ⟨i + 1, false, by omega, by go_num, by first | rfl | trivial, (decide_eq_false (by omega)).symm, by rw [HCT.out]; exact HOw6.out, HVw6.out, HBw6.out, hsw6⟩
         case measure => simp [intOf] <;> omega
        ·subst hia
         have hdf : db = false := hdb.trans (decide_eq_false (by omega))
         clear hdb
         subst hdf
         have hbl : Op.bytesLess M.toList P.toList = false := bl_no (by rw [← HPM.out]; exact HRK.out.hi i (Nat.le_refl _) hin)
         go_wp2_with fail
         go_quiet (fail)
         clear c0 c1 c2 c3 q0 q1 q2 q3
         generalize hwq : World.drewN wr _ = wq
         have HQ : Hid (Below wr.heap.size wr wq) := by rw [← hwq]; exact bel_dn _ _
         have hsq : wr.heap.size ≤ wq.heap.size := HQ.out.size
         clear hwq
         have HBwq : Hid (Below w1.heap.size w1 wq) := HBE.out.trans (HQ.out.mono HBE.out.size)
         have HOwq : Hid (wq.ownsRow bs 62 4 (.slice at7 c cp7) c (enC F c)) := own_below HOW.out HQ.out
         obtain ⟨c0, c1, c2, c3⟩ := HCI.out _ HBwq.out
         obtain ⟨q0, q1, q2, q3⟩ := HX.out _ HBwq.out
         have HCA : Hid (c = i) := by show _ = _; rw [← HCN.out]; unfold cnt; rw [if_neg (by omega)]
         have HFC : Hid (F c = ⟨P, k, d, x⟩) := by
          show _ = _
          rw [HCA.out, HFA.out]
         have HOAw5 : Hid (∀ ob, (wq.alloc ob).ownsRow bs 62 4 (.slice at7 c cp7) c (enC F c)) := fun ob => own_below HOwq.out ((Below.refl _ _).alloc (Nat.le_refl _) _)
         have HBAw5 : Hid (∀ ob, Below w1.heap.size w1 (wq.alloc ob)) := fun ob => HBwq.out.alloc HBwq.out.size _
         have HSAw5 : Hid (∀ ob, bs ≤ (wq.alloc ob).heap.size) := fun ob => by rw [World.size_alloc]; omega
         have HCw5 : Hid (c ≤ 2000000) := by show _ ≤ _; omega
         have HNXw5 : Hid (enC F (c + 1) = enC F c ++ [.string P, .int .i64 k, .string d, .bool x]) := by show _ = _; rw [enC_succ, HFC.out]
         go_wp2_with (first
          | (at_builtin; refine app_ent _ rfl _ _ rfl bs _ _ _ rfl (HOAw5.out _) HNN.out ⟨wq.heap.size, 0, none⟩ 1 (.string P) (.int .i64 k) (.string d) (.bool x) rfl (four_at _ _ rfl _ _ _ _ _) (four_one P k d x) HCw5.out (HSAw5.out _) ?_; intro v5 w5 hownw5 hvw5 hgw5; refine Hid.out ?_)
          | go_in)
         refine Lib.hid ?_
         have HBw5 : Hid (Below w1.heap.size w1 w5) := (HBAw5.out _).grown hgw5 (HBAw5.out _).size (fun q hq => Nat.le_trans HWB.out ((HOAw5.out (.cells #[.string P, .int .i64 k, .string d, .bool x] 62)).lt q hq).1)
         have HOw5 : Hid (w5.ownsRow bs 62 4 v5 (c + 1) (enC F (c + 1))) := by rw [HNXw5.out]; exact hownw5
         have HVw5 : Hid (v5 ≠ .slice none 0 0) := hvw5
         have hsw5 : bs ≤ w5.heap.size := Nat.le_trans (HSAw5.out _) hgw5.size
         clear hownw5 hvw5 hgw5
         clear c0 c1 c2 c3 q0 q1 q2 q3
         obtain ⟨c0, c1, c2, c3⟩ := HCI.out _ HBw5.out
         obtain ⟨q0, q1, q2, q3⟩ := HX.out _ HBw5.out
         obtain ⟨a5, cp5, hv5⟩ := own_shape HOw5.out
         subst hv5
         by_cases ht : M.data.toList = P.data.toList
         ·have heq : (M.toList == P.toList) = true := by rw [ByteArray.toList_eq, ByteArray.toList_eq]; simpa using ht
          have HT1 : Hid (th = true) := HTH.out.2 ⟨hin, HPM.out.trans ht⟩
          have HCT : Hid (cnt th i (i + 1) = c + 1) := by
           show _ = _
           rw [HCA.out]
           unfold cnt
           rw [if_pos (by omega), if_pos HT1.out]
          clear ht
          go_wp2_with fail
          go_quiet (fail)
          clear c0 c1 c2 c3 q0 q1 q2 q3
          generalize hwqz : World.drewN w5 _ = wz
          have HQz : Hid (Below w5.heap.size w5 wz) := by rw [← hwqz]; exact bel_dn _ _
          have hsqz : w5.heap.size ≤ wz.heap.size := HQz.out.size
          clear hwqz
          have HBwz : Hid (Below w1.heap.size w1 wz) := HBw5.out.trans (HQz.out.mono HBw5.out.size)
          have HOwz : Hid (wz.ownsRow bs 62 4 (.slice a5 (c + 1) cp5) (c + 1) (enC F (c + 1))) := own_below HOw5.out HQz.out
          go_wp2
          go_roundw
          case rel => exact ⟨i + 1, true, by omega, by go_num, by first | rfl | trivial, (decide_eq_true (by omega)).symm, by rw [HCT.out]; exact HOwz.out, HVw5.out, HBwz.out, by omega⟩
          case measure => simp [intOf] <;> omega
         ·have heq : (M.toList == P.toList) = false := by rw [ByteArray.toList_eq, ByteArray.toList_eq, beq_eq_false_iff_ne]; exact ht
          have HT0 : Hid (¬ th = true) := fun h => ht (HPM.out.symm.trans (HTH.out.1 h).2)
          have HCT : Hid (cnt th i (i + 1) = c + 1 + 1) := by
           show _ = _
           rw [HCA.out]
           unfold cnt
           rw [if_pos (by omega), if_neg HT0.out]
          have HFD : Hid (F (c + 1) = ⟨M, kM, dM, xM⟩) := by
           show _ = _
           rw [HFG.out (c + 1) (by have := HCA.out; omega), if_neg HT0.out, show c + 1 - 1 = c from rfl, HCA.out]
           exact HEI.out
          clear ht
          go_wp2_with fail
          go_quiet (fail)
          clear c0 c1 c2 c3 q0 q1 q2 q3
          generalize hwqz : World.drewN w5 _ = wz
          have HQz : Hid (Below w5.heap.size w5 wz) := by rw [← hwqz]; exact bel_dn _ _
          have hsqz : w5.heap.size ≤ wz.heap.size := HQz.out.size
          clear hwqz
          have HBwz : Hid (Below w1.heap.size w1 wz) := HBw5.out.trans (HQz.out.mono HBw5.out.size)
          have HOwz : Hid (wz.ownsRow bs 62 4 (.slice a5 (c + 1) cp5) (c + 1) (enC F (c + 1))) := own_below HOw5.out HQz.out
          obtain ⟨c0, c1, c2, c3⟩ := HCI.out _ HBwz.out
          obtain ⟨q0, q1, q2, q3⟩ := HX.out _ HBwz.out
          have HOAw6 : Hid (∀ ob, (wz.alloc ob).ownsRow bs 62 4 (.slice a5 (c + 1) cp5) (c + 1) (enC F (c + 1))) := fun ob => own_below HOwz.out ((Below.refl _ _).alloc (Nat.le_refl _) _)
          have HBAw6 : Hid (∀ ob, Below w1.heap.size w1 (wz.alloc ob)) := fun ob => HBwz.out.alloc HBwz.out.size _
          have HSAw6 : Hid (∀ ob, bs ≤ (wz.alloc ob).heap.size) := fun ob => by rw [World.size_alloc]; omega
          have HCw6 : Hid ((c + 1) ≤ 2000000) := by show _ ≤ _; omega
          have HNXw6 : Hid (enC F ((c + 1) + 1) = enC F (c + 1) ++ [.string M, .int .i64 kM, .string dM, .bool xM]) := by show _ = _; rw [enC_succ, HFD.out]
          go_wp2_with (first
           | (at_builtin; refine app_ent _ rfl _ _ rfl bs _ _ _ rfl (HOAw6.out _) HVw5.out ⟨wz.heap.size, 0, none⟩ 1 (.string M) (.int .i64 kM) (.string dM) (.bool xM) rfl (four_at _ _ rfl _ _ _ _ _) (four_one M kM dM xM) HCw6.out (HSAw6.out _) ?_; intro v6 w6 hownw6 hvw6 hgw6; refine Hid.out ?_)
           | go_in)
          refine Lib.hid ?_
          have HBw6 : Hid (Below w1.heap.size w1 w6) := (HBAw6.out _).grown hgw6 (HBAw6.out _).size (fun q hq => Nat.le_trans HWB.out ((HOAw6.out (.cells #[.string M, .int .i64 kM, .string dM, .bool xM] 62)).lt q hq).1)
          have HOw6 : Hid (w6.ownsRow bs 62 4 v6 ((c + 1) + 1) (enC F ((c + 1) + 1))) := by rw [HNXw6.out]; exact hownw6
          have HVw6 : Hid (v6 ≠ .slice none 0 0) := hvw6
          have hsw6 : bs ≤ w6.heap.size := Nat.le_trans (HSAw6.out _) hgw6.size
          clear hownw6 hvw6 hgw6
          clear c0 c1 c2 c3 q0 q1 q2 q3
          go_wp2
          go_roundw
          case rel => exact ⟨i + 1, true, by omega, by go_num, by first | rfl | trivial, (decide_eq_true (by omega)).symm, by rw [HCT.out]; exact HOw6.out, HVw6.out, HBw6.out, hsw6⟩
          case measure => simp [intOf] <;> omega
        ·have hdf : db = true := hdb.trans (decide_eq_true (by omega))
         clear hdb
         subst hdf
         have heq : (M.toList == P.toList) = false := by
          rw [ByteArray.toList_eq, ByteArray.toList_eq, beq_eq_false_iff_ne]
          intro e
          exact HRK.out.hi a (Nat.le_refl _) (by omega) (by have := HAS.out a i hia hin; rw [HPM.out, e] at this; exact this)
         go_wp2_with fail
         go_quiet (fail)
         go_wp2_with fail
         go_quiet (fail)
         clear c0 c1 c2 c3 q0 q1 q2 q3
         generalize hwq : World.drewN (World.drewN wr _) _ = wq
         have HQ : Hid (Below wr.heap.size wr wq) := by rw [← hwq]; exact bel_dn2 _ _ _
         have hsq : wr.heap.size ≤ wq.heap.size := HQ.out.size
         clear hwq
         have HBwq : Hid (Below w1.heap.size w1 wq) := HBE.out.trans (HQ.out.mono HBE.out.size)
         have HOwq : Hid (wq.ownsRow bs 62 4 (.slice at7 c cp7) c (enC F c)) := own_below HOW.out HQ.out
         obtain ⟨c0, c1, c2, c3⟩ := HCI.out _ HBwq.out
         obtain ⟨q0, q1, q2, q3⟩ := HX.out _ HBwq.out
         have HFC : Hid (F c = ⟨M, kM, dM, xM⟩) := by
          have hc := HCN.out
          unfold cnt at hc
          rw [if_pos hia] at hc
          have hac : a < c := by split at hc <;> omega
          show _ = _
          rw [HFG.out c hac]
          by_cases ht : th = true
          ·rw [if_pos ht] at hc ⊢
           rw [← hc]
           exact HEI.out
          ·rw [if_neg ht] at hc ⊢
           rw [← hc]
           exact HEI.out
         have HOAw6 : Hid (∀ ob, (wq.alloc ob).ownsRow bs 62 4 (.slice at7 c cp7) c (enC F c)) := fun ob => own_below HOwq.out ((Below.refl _ _).alloc (Nat.le_refl _) _)
         have HBAw6 : Hid (∀ ob, Below w1.heap.size w1 (wq.alloc ob)) := fun ob => HBwq.out.alloc HBwq.out.size _
         have HSAw6 : Hid (∀ ob, bs ≤ (wq.alloc ob).heap.size) := fun ob => by rw [World.size_alloc]; omega
         have HCw6 : Hid (c ≤ 2000000) := by show _ ≤ _; omega
         have HNXw6 : Hid (enC F (c + 1) = enC F c ++ [.string M, .int .i64 kM, .string dM, .bool xM]) := by show _ = _; rw [enC_succ, HFC.out]
         go_wp2_with (first
          | (at_builtin; refine app_ent _ rfl _ _ rfl bs _ _ _ rfl (HOAw6.out _) HNN.out ⟨wq.heap.size, 0, none⟩ 1 (.string M) (.int .i64 kM) (.string dM) (.bool xM) rfl (four_at _ _ rfl _ _ _ _ _) (four_one M kM dM xM) HCw6.out (HSAw6.out _) ?_; intro v6 w6 hownw6 hvw6 hgw6; refine Hid.out ?_)
          | go_in)
         refine Lib.hid ?_
         have HBw6 : Hid (Below w1.heap.size w1 w6) := (HBAw6.out _).grown hgw6 (HBAw6.out _).size (fun q hq => Nat.le_trans HWB.out ((HOAw6.out (.cells #[.string M, .int .i64 kM, .string dM, .bool xM] 62)).lt q hq).1)
         have HOw6 : Hid (w6.ownsRow bs 62 4 v6 (c + 1) (enC F (c + 1))) := by rw [HNXw6.out]; exact hownw6
         have HVw6 : Hid (v6 ≠ .slice none 0 0) := hvw6
         have hsw6 : bs ≤ w6.heap.size := Nat.le_trans (HSAw6.out _) hgw6.size
         clear hownw6 hvw6 hgw6
         have HCT : Hid (cnt th a (i + 1) = c + 1) := by
          show _ = _
          rw [← HCN.out]
          unfold cnt
          rw [if_pos (by omega), if_pos hia]
          split <;> omega
         clear c0 c1 c2 c3 q0 q1 q2 q3
         go_wp2
         go_roundw
         case rel => exact ⟨i + 1, true, by omega, by go_num, by first | rfl | trivial, (decide_eq_true (by omega)).symm, by rw [HCT.out]; exact HOw6.out, HVw6.out, HBw6.out, hsw6⟩
         case measure => simp [intOf] <;> omega
       ·have HIN : Hid (i = n) := by show _ = _; omega
        have hin' : ¬ (i : Int) < (n : Int) := by omega
        by_cases haln : a < n
        ·have hdf : db = true := hdb.trans (decide_eq_true (by have := HIN.out; omega))
         clear hdb
         subst hdf
         have HCP : Hid (c = ptN E n ⟨P, k, d, x⟩ a) := by
          show _ = _
          rw [HPN.out, ← HCN.out, HIN.out]
          unfold cnt
          rw [if_pos haln]
         have hbb : c ≤ 1001 := by omega
         by_cases hbig : 500 < c
         ·have hbig' : (500 : Int) < ((c : Nat) : Int) := by omega
          obtain ⟨e1, e2, e3⟩ := HNO.out (tkB_no fun h => by
           have h4 := h.2.2.2
           have hcp := HCP.out
           rw [HPN.out] at hcp
           rcases h4 with h4 | h4
           ·rw [if_pos (HTH.out.2 h4)] at hcp; omega
           ·split at hcp <;> omega)
          subst e1 e2 e3
          go_wp2_with (go_at_call 85; refine (HCC.out _ HBE.out).mono ?_; rintro e w9 ⟨⟨v9, rfl, hown9, hv9⟩, hl9⟩; have HR9 : Hid (RowE wr.heap.size w9 v9 RN RF) := own_rowE hown9 hv9; have HB9 : Hid (Below w1.heap.size w1 w9) := HBE.out.trans (hl9.mono HBE.out.size); clear hown9 hv9)
          go_ret2
          exact ⟨⟨_, rfl, rowE_mono HR9.out (HUP.out _ HBE.out).size⟩, HUP.out _ HB9.out⟩
         ·have hbig' : ¬ (500 : Int) < ((c : Nat) : Int) := by omega
          obtain ⟨e1, e2, e3⟩ := HYES.out (tkB_yes ⟨HEO.out, HUD.out, HKF.out, by
           have hcp := HCP.out
           rw [HPN.out] at hcp
           by_cases ht : th = true
           ·exact .inl (HTH.out.1 ht)
           ·rw [if_neg ht] at hcp
            exact .inr (by omega)⟩)
          have HRW : Hid (RowE bs wr (.slice at7 c cp7) RN RF) := by
           have h := own_rowE HOW.out HNN.out
           rw [e2.trans HCP.out.symm, e3, HFF.out]
           exact h
          clear e2 e3
          subst e1
          have HWW : Hid (w.heap.size ≤ bs) := Nat.le_trans HB1.out.size HWB.out
          go_wp2
          go_ret2
          exact ⟨⟨_, rfl, rowE_mono HRW.out HWW.out⟩, HUP.out _ HBE.out⟩
        ·have hdf : db = false := hdb.trans (decide_eq_false (by have := HIN.out; omega))
         clear hdb
         subst hdf
         have HT0 : Hid (¬ th = true) := fun h => haln (HTH.out.1 h).1
         have HCA : Hid (c = i) := by show _ = _; rw [← HCN.out]; unfold cnt; rw [if_neg (by have := HIN.out; omega)]
         have HFC : Hid (F c = ⟨P, k, d, x⟩) := by
          have h1 : c = a := by have := HCA.out; have := HIN.out; omega
          show _ = _
          rw [h1, HFA.out]
         have HCP : Hid (c + 1 = ptN E n ⟨P, k, d, x⟩ a) := by
          show _ = _
          rw [HPN.out, if_neg HT0.out, HCA.out, HIN.out]
         have HOAw5 : Hid (∀ ob, (wr.alloc ob).ownsRow bs 62 4 (.slice at7 c cp7) c (enC F c)) := fun ob => own_below HOW.out ((Below.refl _ _).alloc (Nat.le_refl _) _)
         have HBAw5 : Hid (∀ ob, Below w1.heap.size w1 (wr.alloc ob)) := fun ob => HBE.out.alloc HBE.out.size _
         have HSAw5 : Hid (∀ ob, bs ≤ (wr.alloc ob).heap.size) := fun ob => by rw [World.size_alloc]; omega
         have HCw5 : Hid (c ≤ 2000000) := by show _ ≤ _; omega
         have HNXw5 : Hid (enC F (c + 1) = enC F c ++ [.string P, .int .i64 k, .string d, .bool x]) := by show _ = _; rw [enC_succ, HFC.out]
         go_wp2_with (first
          | (at_builtin; refine app_ent _ rfl _ _ rfl bs _ _ _ rfl (HOAw5.out _) HNN.out ⟨wr.heap.size, 0, none⟩ 1 (.string P) (.int .i64 k) (.string d) (.bool x) rfl (four_at _ _ rfl _ _ _ _ _) (four_one P k d x) HCw5.out (HSAw5.out _) ?_; intro v5 w5 hownw5 hvw5 hgw5; refine Hid.out ?_)
          | go_in)
         refine Lib.hid ?_
         have HBw5 : Hid (Below w1.heap.size w1 w5) := (HBAw5.out _).grown hgw5 (HBAw5.out _).size (fun q hq => Nat.le_trans HWB.out ((HOAw5.out (.cells #[.string P, .int .i64 k, .string d, .bool x] 62)).lt q hq).1)
         have HOw5 : Hid (w5.ownsRow bs 62 4 v5 (c + 1) (enC F (c + 1))) := by rw [HNXw5.out]; exact hownw5
         have HVw5 : Hid (v5 ≠ .slice none 0 0) := hvw5
         have hsw5 : bs ≤ w5.heap.size := Nat.le_trans (HSAw5.out _) hgw5.size
         clear hownw5 hvw5 hgw5
         obtain ⟨a5, cp5, hv5⟩ := own_shape HOw5.out
         subst hv5
         have hbb : (c + 1) ≤ 1001 := by omega
         by_cases hbig : 500 < (c + 1)
         ·have hbig' : (500 : Int) < (((c + 1) : Nat) : Int) := by omega
          obtain ⟨e1, e2, e3⟩ := HNO.out (tkB_no fun h => by
           have h4 := h.2.2.2
           have hcp := HCP.out
           rw [HPN.out] at hcp
           rcases h4 with h4 | h4
           ·rw [if_pos (HTH.out.2 h4)] at hcp; omega
           ·split at hcp <;> omega)
          subst e1 e2 e3
          go_wp2_with (go_at_call 85; refine (HCC.out _ HBw5.out).mono ?_; rintro e w9 ⟨⟨v9, rfl, hown9, hv9⟩, hl9⟩; have HR9 : Hid (RowE w5.heap.size w9 v9 RN RF) := own_rowE hown9 hv9; have HB9 : Hid (Below w1.heap.size w1 w9) := HBw5.out.trans (hl9.mono HBw5.out.size); clear hown9 hv9)
          go_ret2
          exact ⟨⟨_, rfl, rowE_mono HR9.out (HUP.out _ HBw5.out).size⟩, HUP.out _ HB9.out⟩
         ·have hbig' : ¬ (500 : Int) < (((c + 1) : Nat) : Int) := by omega
          obtain ⟨e1, e2, e3⟩ := HYES.out (tkB_yes ⟨HEO.out, HUD.out, HKF.out, by
           have hcp := HCP.out
           rw [HPN.out] at hcp
           by_cases ht : th = true
           ·exact .inl (HTH.out.1 ht)
           ·rw [if_neg ht] at hcp
            exact .inr (by omega)⟩)
          have HRW : Hid (RowE bs w5 (.slice a5 (c + 1) cp5) RN RF) := by
           have h := own_rowE HOw5.out HVw5.out
           rw [e2.trans HCP.out.symm, e3, HFF.out]
           exact h
          clear e2 e3
          subst e1
          have HWW : Hid (w.heap.size ≤ bs) := Nat.le_trans HB1.out.size HWB.out
          go_wp2
          go_ret2
          exact ⟨⟨_, rfl, rowE_mono HRW.out HWW.out⟩, HUP.out _ HBw5.out⟩
end Go.Proofs.YthbgpfjbfkiljaaGreatDoor.tt
