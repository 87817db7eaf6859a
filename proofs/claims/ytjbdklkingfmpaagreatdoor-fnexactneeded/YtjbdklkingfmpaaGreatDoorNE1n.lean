import Derived.Test.YtjbdklkingfmpaaGreatDoorWO1n
import Derived.Test.YtjbdklkingfmpaaGreatDoorCL1n
import Derived.Test.YtjbdklkingfmpaaGreatDoorPU1n
import Derived.Test.YtjbdklkingfmpaaGreatDoorWG1n
import Derived.Test.YtjbdklkingfmpaaGreatDoorYBn
import Derived.Test.YtjbdklkingfmpaaGreatDoorYCn
import Derived.Test.YtjbdklkingfmpaaGreatDoorYDn
import Derived.Test.YtjbdklkingfmpaaGreatDoorLL1n
import Derived.Test.YtjbdklkingfmpaaGreatDoorST1n
namespace Go.Proofs.YtjbdklkingfmpaaGreatDoor.so
open Go.ChangeShapes Go.WideShapes Go.ChangeAt Go.RowKit Go.Deep Go.Shelf Go.Maps
set_option linter.unusedVariables false
set_option linter.unusedSimpArgs false
noncomputable def neeA (x : ty.Wo) (q : ByteArray) : List (List UInt8) := if woB x = true then cloA x.fStore [pf.curP (x.fProfiles.map prX) q.data.toList] else []
theorem wo_parts {x : ty.Wo} (h : woB x = true) : stB x.fStore = true ∧ pf.psB (x.fProfiles.map prX) = true := by
 unfold woB at h
 simp only [Bool.and_eq_true] at h
 exact ⟨h.1, h.2.1⟩
theorem neeA_len (x : ty.Wo) (q : ByteArray) : (neeA x q).length ≤ 300 := by
 unfold neeA
 split
 ·exact cloA_len _ _
 ·simp
theorem aok_some {p : ByteArray} (h : wd.aokB p = true) : p.data.toList ≠ [] := fun e => by
 unfold wd.aokB at h
 simp only [Bool.and_eq_true, decide_eq_true_eq] at h
 have h1 : p.data.toList.length = p.size := Array.length_toList
 rw [e] at h1
 have := h.1
 simp at h1
 omega
theorem clo_none {ps : List ty.It} (h : stB ps = true) : cloA ps [⟨#[]⟩] = [] := by
 have hg : gI ps [] = none := gI_none fun x hx e => by
  unfold stB at h
  simp only [Bool.and_eq_true, decide_eq_true_eq, List.all_eq_true] at h
  have h1 := h.2.2 x hx
  unfold itB itP at h1
  simp only [Bool.and_eq_true] at h1
  exact aok_some h1.1 e
 have hf : fin (gI ps) (txL [⟨#[]⟩]) = [] := fin_eq (k := 1) (by
  show stp (gI ps) ([], [] ++ [[]]) = ([], [])
  exact stp_none hg)
 unfold cloA
 rw [if_pos ⟨h, by simp⟩, hf]
 rfl
theorem one_rowN (w : World) (P : ByteArray) : sr.StrR (w.alloc (.cells #[.string P] 9)) (.slice (some ⟨w.heap.size, 0, none⟩) [P.data.toList].length 1) [P.data.toList] :=
 ⟨w.heap.size, 0, 1, rfl, by simp, by unfold maxLen; omega, fun i y hy => by
  match i, hy with
  | 0, hy => cases hy; simp [go_sem, sr.strL]
  | i + 1, hy => simp at hy⟩
theorem cur_size {ps : List ty.Pr} {q : List UInt8} (h : ty.wtPr ps ≤ 1048576) : (pf.curP (ps.map prX) q).size ≤ 1048576 := by
 have hz : (⟨#[]⟩ : ByteArray).size ≤ 1048576 := by simp [ByteArray.size]
 unfold pf.curP
 split
 ·cases hx : (ps.map prX)[(pf.fIx (ps.map prX) q).toNat]? with
  | none =>
   rw [Option.getD_none]
   have : pf.cur default = ⟨#[]⟩ := by unfold pf.cur; rw [if_pos (by decide)]
   rw [this]; exact hz
  | some y =>
   rw [Option.getD_some]
   unfold pf.cur
   split
   ·exact hz
   ·cases hg : y.gens[(pf.gIx y.gens y.now).toNat]? with
    | none => rw [Option.getD_none]; exact hz
    | some g =>
     rw [Option.getD_some]
     have := pf.wt_path (List.mem_of_getElem? hx) (List.mem_of_getElem? hg)
     rw [wt_prof] at this
     omega
 ·exact hz
set_option maxHeartbeats 2000000 in
set_option maxRecDepth 100000 in
theorem inee_any (lo : Nat) (x : ty.Wo) (q : ByteArray) (a0 a1 a2 a3 : Option Addr) (c0 c1 c2 c3 : Nat) (w : World) (hb : SrcW (some lo) w x a0 a1 a2 a3) (hw : ty.wt1Wo x ≤ 1048576) (hm : tt.ML w) (hT : wd.TabB w) :
  Calls Tryz.prog 8 #[.agg #[.slice a0 x.fStore.length c0, .slice a1 x.fProfiles.length c1, .slice a2 x.fPending.length c2, .slice a3 x.fNexts.length c3], .string q] w fun e w' => (∃ v, e = .returned v ∧ sr.OwnS w.heap.size w' v (neeA x q)) ∧ Below w.heap.size w w' := by
 have hws : ty.wtIt x.fStore ≤ 1048576 ∧ ty.wtPr x.fProfiles ≤ 1048576 := by unfold ty.wt1Wo at hw; omega
 have HWO : Hid (∀ W, Below w.heap.size w W → Calls Tryz.prog 29 #[.agg #[.slice a0 x.fStore.length c0, .slice a1 x.fProfiles.length c1, .slice a2 x.fPending.length c2, .slice a3 x.fNexts.length c3]] W fun e w' => e = .returned (.bool (woB x)) ∧ Below W.heap.size W w') := fun W h => by
  have h' := hb.below h
  exact iwo_any lo x a0 a1 a2 a3 c0 c1 c2 c3 W h'.st h'.pr h'.pe h'.nx hw (hm.below h) (hT.below h)
 have HCU : Hid (∀ W, Below w.heap.size w W → Calls Tryz.prog 31 #[.slice a1 x.fProfiles.length c1, .string q] W fun e w' => e = .returned (.string (pf.curP (x.fProfiles.map prX) q.data.toList)) ∧ Below W.heap.size W w') := fun W h => by
  have := pf.icur_any (x.fProfiles.map prX) a1 c1 q W (src_prof (hb.pr.below h)) (by rw [wt_prof]; exact hws.2) (hT.below h)
  rwa [List.length_map] at this
 have HRE : Hid (woB x = true → ∀ W, Below w.heap.size w W → Calls Tryz.prog 30 #[.slice a0 x.fStore.length c0, .slice (some ⟨W.heap.size, 0, none⟩) 1 1] (W.alloc (.cells #[.string (pf.curP (x.fProfiles.map prX) q.data.toList)] 9)) fun e w' => (∃ v, e = .returned v ∧ sr.OwnS (W.alloc (.cells #[.string (pf.curP (x.fProfiles.map prX) q.data.toList)] 9)).heap.size w' v (neeA x q)) ∧ Below (W.alloc (.cells #[.string (pf.curP (x.fProfiles.map prX) q.data.toList)] 9)).heap.size (W.alloc (.cells #[.string (pf.curP (x.fProfiles.map prX) q.data.toList)] 9)) w') := fun h W hB => by
  have h1 := wo_parts h
  have h3 := st_factsC h1.1
  have hA : Below w.heap.size w (W.alloc (.cells #[.string (pf.curP (x.fProfiles.map prX) q.data.toList)] 9)) := hB.alloc hB.size _
  have e : neeA x q = (fin (gI x.fStore) [(pf.curP (x.fProfiles.map prX) q.data.toList).data.toList]).foldl sr.fadd [] := by
   unfold neeA
   rw [if_pos h]
   unfold cloA
   rw [if_pos ⟨h1.1, by simp⟩]
   rfl
  rw [e]
  exact reach_any lo a0 c0 x.fStore (some ⟨W.heap.size, 0, none⟩) 1 [(pf.curP (x.fProfiles.map prX) q.data.toList).data.toList] _ (hb.st.below hA) h3.1 (st_sz h1.1 hws.1) h3.2.1 (one_rowN W _) (by simp) (fun y hy => by
   simp only [List.mem_singleton] at hy
   subst hy
   have := cur_size (q := q.data.toList) hws.2
   have e : (pf.curP (x.fProfiles.map prX) q.data.toList).data.toList.length = (pf.curP (x.fProfiles.map prX) q.data.toList).size := Array.length_toList
   omega)
 have HNO : Hid (woB x = false → neeA x q = []) := fun h => by unfold neeA; rw [if_neg (by rw [h]; simp)]
 obtain ⟨rs, hrs⟩ : ∃ rs, neeA x q = rs := ⟨_, rfl⟩
 obtain ⟨cu, hcu⟩ : ∃ cu, pf.curP (x.fProfiles.map prX) q.data.toList = cu := ⟨_, rfl⟩
 obtain ⟨V, hV⟩ : ∃ V, woB x = V := ⟨_, rfl⟩
 rw [hrs] at HRE HNO ⊢
 rw [hcu] at HCU HRE
 rw [hV] at HWO HRE HNO
 clear hb hw hm hT hws hrs hcu hV
 generalize x.fStore.length = n0 at *
 generalize x.fProfiles.length = n1 at *
 generalize x.fPending.length = n2 at *
 generalize x.fNexts.length = n3 at *
 have HB0 : Hid (Below w.heap.size w (w.alloc (Obj.cells #[.slice a0 n0 c0, .slice a1 n1 c1, .slice a2 n2 c2, .slice a3 n3 c3] 36))) := (Below.refl _ _).alloc (Nat.le_refl _) _
 have HW0 : Hid (WoC (w.alloc (Obj.cells #[.slice a0 n0 c0, .slice a1 n1 c1, .slice a2 n2 c2, .slice a3 n3 c3] 36)) w.heap.size (.slice a0 n0 c0) (.slice a1 n1 c1) (.slice a2 n2 c2) (.slice a3 n3 c3)) := ⟨by simp [go_sem], by simp [go_sem], by simp [go_sem], by simp [go_sem]⟩
 cases V with
 | false =>
  have HE : Hid (rs = []) := HNO.out rfl
  go_enter Tryz.func8, Tryz.ntmps8
  go_wp2_with (go_at_call 29; refine (HWO.out _ HB0.out).mono ?_; rintro e w1 ⟨rfl, hl1⟩)
  have hB1 : Below w.heap.size w w1 := HB0.out.trans (hl1.mono HB0.out.size)
  go_ret
  exact ⟨⟨_, rfl, by rw [HE.out]; exact (rf.nil_row w1 : sr.OwnS w1.heap.size _ _ []).mono hB1.size⟩, hB1.alloc hB1.size _⟩
 | true =>
  have HR2 := Lib.hid (HRE.out rfl)
  clear HRE HNO
  go_enter Tryz.func8, Tryz.ntmps8
  go_wp2_with (go_at_call 29; refine (HWO.out _ HB0.out).mono ?_; rintro e w1 ⟨rfl, hl1⟩; obtain ⟨k0, k1, k2, k3⟩ := HW0.out.below hl1; refine Hid.out ?_)
  refine Lib.hid ?_
  have HB1 : Hid (Below w.heap.size w w1) := HB0.out.trans (hl1.mono HB0.out.size)
  have HK1 : Hid (∀ W, Below w1.heap.size w1 W → W.cell? ⟨w.heap.size, 0, none⟩ = some (.slice a0 n0 c0) ∧ W.cell? ⟨w.heap.size, 1, none⟩ = some (.slice a1 n1 c1)) := fun W h => by
   obtain ⟨u0, u1, _, _⟩ := (HW0.out.below hl1).below h
   exact ⟨u0, u1⟩
  clear hl1 HW0 HB0 HWO k0 k1 k2 k3
  obtain ⟨k0, k1⟩ := HK1.out _ (Below.refl _ _)
  have hlt : w.heap.size < w1.heap.size := World.block_lt_of_cell? _ _ k0
  go_wp2_with fail
  go_region_held3 (fun w' => w'.cell? ⟨w.heap.size, 0, none⟩ = some (.slice a0 n0 c0) ∧ w'.cell? ⟨w.heap.size, 1, none⟩ = some (.slice a1 n1 c1))
   (first | exact HK1.out _ (Below.refl _ _).drew | exact HK1.out _ hb3 | exact HK1.out _ hb2 | exact HK1.out _ (Below.refl _ _) | go_keep)
   (first
    | (go_at_call 31; refine (HCU.out _ HB1.out.drew).mono ?_; rintro e w2 ⟨rfl, hl2⟩; have hb2 : Below w1.heap.size w1 w2 := (Below.refl w1.heap.size w1).drew.trans hl2; have hB2 : Below w.heap.size w w2 := HB1.out.trans (hb2.mono HB1.out.size))
    | (go_at_call 30; refine (HR2.out _ hB2).mono ?_; rintro e w3 ⟨⟨v3, rfl, hv3⟩, hl3⟩; have hb3 : Below w1.heap.size w1 w3 := (hb2.alloc hb2.size _).trans (hl3.mono (hb2.alloc hb2.size _).size)))
  go_wp2_with fail
  go_ret
  exact ⟨⟨_, rfl, hv3.mono (hB2.alloc hB2.size _).size⟩, (hB2.alloc hB2.size _).trans (hl3.mono (hB2.alloc hB2.size _).size)⟩
set_option maxHeartbeats 2000000 in
set_option maxRecDepth 100000 in
theorem snee_any (lo : Nat) (x : ty.Wo) (q : ByteArray) (a0 a1 a2 a3 : Option Addr) (c0 c1 c2 c3 : Nat) (w : World) (hb : SrcW (some lo) w x a0 a1 a2 a3) (hw : ty.wt1Wo x ≤ 1048576) :
  Calls Tryz.prog 6 #[.agg #[.slice a0 x.fStore.length c0, .slice a1 x.fProfiles.length c1, .slice a2 x.fPending.length c2, .slice a3 x.fNexts.length c3], .string q] w fun e w' => (∃ v, e = .returned v ∧ sr.OwnS w.heap.size w' v (neeA x q)) ∧ Below w.heap.size w w' := by
 have hws : ty.wtIt x.fStore ≤ 1048576 ∧ ty.wtPr x.fProfiles ≤ 1048576 := by unfold ty.wt1Wo at hw; omega
 have hpl : x.fProfiles.length ≤ 1048576 := by have := ty.wtPr_len x.fProfiles; omega
 have HWO : Hid (∀ W, Below w.heap.size w W → Calls Tryz.prog 21 #[.agg #[.slice a0 x.fStore.length c0, .slice a1 x.fProfiles.length c1, .slice a2 x.fPending.length c2, .slice a3 x.fNexts.length c3]] W fun e w' => e = .returned (.bool (woB x)) ∧ Below W.heap.size W w') := fun W h => by
  have h' := hb.below h
  exact swo_any lo x a0 a1 a2 a3 c0 c1 c2 c3 W h'.st h'.pr h'.pe h'.nx hw
 have HFI : Hid (∀ W, Below w.heap.size w W → Calls Tryz.prog 22 #[.slice a1 x.fProfiles.length c1, .string q] W fun e w' => e = .returned (.int .i64 (pf.fIx (x.fProfiles.map prX) q.data.toList)) ∧ w' = W) := fun W h => by
  have := pf.l13Find_any (x.fProfiles.map prX) a1 c1 q W (src_prof (hb.pr.below h)) (by rw [List.length_map]; exact hpl)
  rwa [List.length_map] at this
 have HRE : Hid (woB x = true → ∀ W, Below w.heap.size w W → Calls Tryz.prog 23 #[.slice a0 x.fStore.length c0, .slice (some ⟨W.heap.size, 0, none⟩) 1 1] (W.alloc (.cells #[.string (pf.curP (x.fProfiles.map prX) q.data.toList)] 9)) fun e w' => (∃ v, e = .returned v ∧ sr.OwnS (W.alloc (.cells #[.string (pf.curP (x.fProfiles.map prX) q.data.toList)] 9)).heap.size w' v (neeA x q)) ∧ Below (W.alloc (.cells #[.string (pf.curP (x.fProfiles.map prX) q.data.toList)] 9)).heap.size (W.alloc (.cells #[.string (pf.curP (x.fProfiles.map prX) q.data.toList)] 9)) w') := fun h W hB => by
  have h1 := wo_parts h
  have h3 := st_factsC h1.1
  have hA : Below w.heap.size w (W.alloc (.cells #[.string (pf.curP (x.fProfiles.map prX) q.data.toList)] 9)) := hB.alloc hB.size _
  have e : neeA x q = (fin (gI x.fStore) [(pf.curP (x.fProfiles.map prX) q.data.toList).data.toList]).foldl sr.fadd [] := by
   unfold neeA
   rw [if_pos h]
   unfold cloA
   rw [if_pos ⟨h1.1, by simp⟩]
   rfl
  rw [e]
  exact l12clo_any lo a0 c0 x.fStore (some ⟨W.heap.size, 0, none⟩) 1 [(pf.curP (x.fProfiles.map prX) q.data.toList).data.toList] _ (hb.st.below hA) h3.1 h3.2.2 (one_rowN W _) (by simp)
 have HNO : Hid (woB x = false → neeA x q = []) := fun h => by unfold neeA; rw [if_neg (by rw [h]; simp)]
 have HN1 : Hid (woB x = true → pf.fIx (x.fProfiles.map prX) q.data.toList = -1 → neeA x q = []) := fun h h1 => by
  unfold neeA
  rw [if_pos h, pf.curP_not h1]
  exact clo_none (wo_parts h).1
 have HN2 : Hid (woB x = true → ∀ (i : Nat) (y : pf.Pr), pf.fIx (x.fProfiles.map prX) q.data.toList = (i : Int) → (x.fProfiles.map prX)[i]? = some y → pf.curP (x.fProfiles.map prX) q.data.toList = pf.cur y) := fun h i y h1 h2 => pf.curP_at (wo_parts h).2 h1 h2
 have HSP : Hid (pf.SrcP w a1 (x.fProfiles.map prX)) := src_prof hb.pr
 have HGL : Hid (∀ y ∈ x.fProfiles.map prX, y.gens.length ≤ 1048576) := fun y hy => by
  have := pf.wt_gens hy
  rw [wt_prof] at this
  omega
 have HLN : Hid ((x.fProfiles.map prX).length = x.fProfiles.length) := List.length_map _
 obtain ⟨rs, hrs⟩ : ∃ rs, neeA x q = rs := ⟨_, rfl⟩
 obtain ⟨cu, hcu⟩ : ∃ cu, pf.curP (x.fProfiles.map prX) q.data.toList = cu := ⟨_, rfl⟩
 obtain ⟨V, hV⟩ : ∃ V, woB x = V := ⟨_, rfl⟩
 obtain ⟨ps, hps⟩ : ∃ ps, x.fProfiles.map prX = ps := ⟨_, rfl⟩
 rw [hrs] at HRE HNO HN1 ⊢
 rw [hcu] at HRE HN2
 rw [hV] at HWO HRE HNO HN1 HN2
 rw [hps] at HFI HN1 HN2 HSP HGL HLN
 clear hb hw hws hrs hcu hV hps hpl
 generalize x.fStore.length = n0 at *
 generalize x.fProfiles.length = n1 at *
 generalize x.fPending.length = n2 at *
 generalize x.fNexts.length = n3 at *
 have HB0 : Hid (Below w.heap.size w (w.alloc (Obj.cells #[.slice a0 n0 c0, .slice a1 n1 c1, .slice a2 n2 c2, .slice a3 n3 c3] 36))) := (Below.refl _ _).alloc (Nat.le_refl _) _
 have HW0 : Hid (WoC (w.alloc (Obj.cells #[.slice a0 n0 c0, .slice a1 n1 c1, .slice a2 n2 c2, .slice a3 n3 c3] 36)) w.heap.size (.slice a0 n0 c0) (.slice a1 n1 c1) (.slice a2 n2 c2) (.slice a3 n3 c3)) := ⟨by simp [go_sem], by simp [go_sem], by simp [go_sem], by simp [go_sem]⟩
 cases V with
 | false =>
  have HE : Hid (rs = []) := HNO.out rfl
  go_enter Tryz.func6, Tryz.ntmps6
  go_wp2_with (go_at_call 21; refine (HWO.out _ HB0.out).mono ?_; rintro e w1 ⟨rfl, hl1⟩)
  have hB1 : Below w.heap.size w w1 := HB0.out.trans (hl1.mono HB0.out.size)
  go_ret
  exact ⟨⟨_, rfl, by rw [HE.out]; exact (rf.nil_row w1 : sr.OwnS w1.heap.size _ _ []).mono hB1.size⟩, hB1.alloc hB1.size _⟩
 | true =>
  have HR2 := Lib.hid (HRE.out rfl)
  have HM1 := Lib.hid (HN1.out rfl)
  have HM2 := Lib.hid (HN2.out rfl)
  clear HRE HNO HN1 HN2
  rcases pf.fIx_cases ps q.data.toList with h1 | ⟨i, y, h1, hy⟩
  ·have HE : Hid (rs = []) := HM1.out h1
   rw [h1] at HFI
   clear h1 HM1 HM2
   go_enter Tryz.func6, Tryz.ntmps6
   go_wp2_with (first
    | (go_at_call 21; refine (HWO.out _ HB0.out).mono ?_; rintro e w1 ⟨rfl, hl1⟩; obtain ⟨k0, k1, k2, k3⟩ := HW0.out.below hl1; have hB1 : Below w.heap.size w w1 := HB0.out.trans (hl1.mono HB0.out.size))
    | (go_at_call 22; refine (HFI.out _ hB1).mono ?_; rintro e w1 ⟨rfl, rfl⟩))
   go_ret
   exact ⟨⟨_, rfl, by rw [HE.out]; exact (rf.nil_row w1 : sr.OwnS w1.heap.size _ _ []).mono hB1.size⟩, hB1.alloc hB1.size _⟩
  ·have HE : Hid (cu = pf.cur y) := HM2.out i y h1 hy
   rw [h1] at HFI
   have hin : i < n1 := by have := (List.getElem?_eq_some_iff.1 hy).1; have := HLN.out; omega
   have hin' : (i : Int) < (n1 : Int) := by omega
   have hi0 : (0 : Int) ≤ (i : Int) := by omega
   have hi1 : ¬ (i : Int) < 0 := by omega
   rcases HSP.out with h | ⟨b, o, rfl, hc⟩
   ·have := HLN.out; rw [h] at this; simp at this; omega
   have hgl := HGL.out y (List.mem_of_getElem? hy)
   obtain ⟨u, c, q0, q1, q2, hs⟩ := hc i y hy
   have HQ : Hid (∀ W, Below w.heap.size w W → (W.cell? ⟨b, o + i * 3, none⟩ = some (.string y.name) ∧ W.cell? ⟨b, o + i * 3 + 1, none⟩ = some (.int .i64 y.now) ∧ W.cell? ⟨b, o + i * 3 + 2, none⟩ = some (.slice u y.gens.length c)) ∧ Calls Tryz.prog 24 #[.agg #[.string y.name, .int .i64 y.now, .slice u y.gens.length c]] W fun e w' => e = .returned (.string cu) ∧ Below W.heap.size W w') := fun W hb => ⟨⟨(hb.cell (p := ⟨b, _, none⟩) (World.block_lt_of_cell? _ _ q0)).trans q0, (hb.cell (p := ⟨b, _, none⟩) (World.block_lt_of_cell? _ _ q1)).trans q1, (hb.cell (p := ⟨b, _, none⟩) (World.block_lt_of_cell? _ _ q2)).trans q2⟩, by rw [HE.out]; exact pf.l13Cur_any y u c W (hs.below hb) hgl⟩
   have hbw : b < w.heap.size := World.block_lt_of_cell? _ _ q0
   obtain ⟨z, hz⟩ : ∃ t, y.now = t := ⟨_, rfl⟩
   obtain ⟨A, hA⟩ : ∃ t, y.name = t := ⟨_, rfl⟩
   obtain ⟨m, hmm⟩ : ∃ t, y.gens.length = t := ⟨_, rfl⟩
   rw [hA, hz, hmm] at HQ
   clear h1 hy hc hs q0 q1 q2 hA hz hmm hgl HE HSP HGL HLN HM1 HM2
   go_enter Tryz.func6, Tryz.ntmps6
   go_wp2_with (first
    | (go_at_call 21; refine (HWO.out _ HB0.out).mono ?_; rintro e w1 ⟨rfl, hl1⟩; have hwc := HW0.out.below hl1; obtain ⟨k0, k1, k2, k3⟩ := id hwc; have hB1 : Below w.heap.size w w1 := HB0.out.trans (hl1.mono HB0.out.size))
    | (go_at_call 22; refine (HFI.out _ hB1).mono ?_; rintro e w1 ⟨rfl, rfl⟩; refine Hid.out ?_))
   refine Lib.hid ?_
   have HB1 : Hid (Below w.heap.size w w1) := hB1
   have HK1 : Hid (∀ W, Below w1.heap.size w1 W → (W.cell? ⟨w.heap.size, 0, none⟩ = some (.slice a0 n0 c0) ∧ W.cell? ⟨w.heap.size, 1, none⟩ = some (.slice (some ⟨b, o, none⟩) n1 c1)) ∧ (W.cell? ⟨b, o + i * 3, none⟩ = some (.string A) ∧ W.cell? ⟨b, o + i * 3 + 1, none⟩ = some (.int .i64 z) ∧ W.cell? ⟨b, o + i * 3 + 2, none⟩ = some (.slice u m c))) := fun W h => by
    obtain ⟨u0, u1, _, _⟩ := hwc.below h
    exact ⟨⟨u0, u1⟩, (HQ.out W (hB1.trans (h.mono hB1.size))).1⟩
   have HQ2 : Hid (∀ W, Below w.heap.size w W → Calls Tryz.prog 24 #[.agg #[.string A, .int .i64 z, .slice u m c]] W fun e w' => e = .returned (.string cu) ∧ Below W.heap.size W w') := fun W h => (HQ.out W h).2
   have hlt : w.heap.size < w1.heap.size := World.block_lt_of_cell? _ _ k0
   clear hl1 hwc HW0 HB0 HWO HFI k0 k1 k2 k3 hB1 HQ
   obtain ⟨⟨k0, k1⟩, k2, k3, k4⟩ := HK1.out _ (Below.refl _ _)
   go_wp2_with fail
   go_region_held3 (fun W => (W.cell? ⟨w.heap.size, 0, none⟩ = some (.slice a0 n0 c0) ∧ W.cell? ⟨w.heap.size, 1, none⟩ = some (.slice (some ⟨b, o, none⟩) n1 c1)) ∧ (W.cell? ⟨b, o + i * 3, none⟩ = some (.string A) ∧ W.cell? ⟨b, o + i * 3 + 1, none⟩ = some (.int .i64 z) ∧ W.cell? ⟨b, o + i * 3 + 2, none⟩ = some (.slice u m c)))
    (first | exact HK1.out _ (Below.refl _ _).drew | exact HK1.out _ hb3 | exact HK1.out _ hb2 | exact HK1.out _ (Below.refl _ _) | go_keep)
    (first
     | (go_at_call 24; refine (HQ2.out _ HB1.out.drew).mono ?_; rintro e w2 ⟨rfl, hl2⟩; have hb2 : Below w1.heap.size w1 w2 := (Below.refl w1.heap.size w1).drew.trans hl2; have hB2 : Below w.heap.size w w2 := HB1.out.trans (hb2.mono HB1.out.size))
     | (go_at_call 23; refine (HR2.out _ hB2).mono ?_; rintro e w3 ⟨⟨v3, rfl, hv3⟩, hl3⟩; have hb3 : Below w1.heap.size w1 w3 := (hb2.alloc hb2.size _).trans (hl3.mono (hb2.alloc hb2.size _).size)))
   go_wp2_with fail
   go_ret
   exact ⟨⟨_, rfl, hv3.mono (hB2.alloc hB2.size _).size⟩, (hB2.alloc hB2.size _).trans (hl3.mono (hB2.alloc hB2.size _).size)⟩
end Go.Proofs.YtjbdklkingfmpaaGreatDoor.so
namespace Go.Proofs.YtjbdklkingfmpaaGreatDoor.so
open Go.ChangeShapes Go.WideShapes Go.ChangeAt Go.RowKit Go.Deep
set_option linter.unusedVariables false
set_option linter.unusedSimpArgs false
set_option maxHeartbeats 8000000 in
set_option maxRecDepth 100000 in
theorem nee_law (a0 a1 a2 a3 : Option Addr) (c0 c1 c2 c3 : Nat) (x : ty.Wo) (s1 : ByteArray) (w : World) (hm : tt.ML w) (hT : wd.TabB w) (hb : SrcW none w x a0 a1 a2 a3) (hs : ty.Sm1Wo x) (hz1 : s1.size ≤ maxLen) :
  Calls Tryz.prog 3 #[.agg #[.slice a0 x.fStore.length c0, .slice a1 x.fProfiles.length c1, .slice a2 x.fPending.length c2, .slice a3 x.fNexts.length c3], .string s1] w fun e w' => e = .returned (.bool true) ∧ Below w.heap.size w w' := by
 unfold maxLen at hz1
 obtain ⟨s0_, s1_, s2_, s3_⟩ := hs
 have HSZ : Hid (∀ W, Below w.heap.size w W → Calls Tryz.prog 5 #[.agg #[.slice a0 x.fStore.length c0, .slice a1 x.fProfiles.length c1, .slice a2 x.fPending.length c2, .slice a3 x.fNexts.length c3], .int .i64 1048576] W fun e w' => (∃ r : Int, e = .returned (.int .i64 r) ∧ (r = -1 ∨ 0 ≤ r ∧ r = 1048576 - (ty.wt1Wo x : Int))) ∧ Below W.heap.size W w') := fun W h => by
  have hb' := hb.below h
  refine (ty.sz1Wo_any x.fStore x.fProfiles x.fPending x.fNexts a0 c0 a1 c1 a2 c2 a3 c3 1048576 W hb'.st s0_ hb'.pr s1_ hb'.pe s2_ hb'.nx s3_ ⟨by omega, by omega⟩).mono ?_
  rintro e w' ⟨⟨r, rfl, hr⟩, hl⟩
  exact ⟨⟨r, rfl, by unfold ty.wt1Wo; omega⟩, hl⟩
 have HTO : Hid (∀ W, Below w.heap.size w W → ty.wt1Wo x ≤ 1048576 → Calls Tryz.prog 7 #[.agg #[.slice a0 x.fStore.length c0, .slice a1 x.fProfiles.length c1, .slice a2 x.fPending.length c2, .slice a3 x.fNexts.length c3]] W fun e w' => (∃ g0 g1 g2 g3, e = .returned (.agg #[.slice (some ⟨g0, 0, none⟩) x.fStore.length x.fStore.length, .slice (some ⟨g1, 0, none⟩) x.fProfiles.length x.fProfiles.length, .slice (some ⟨g2, 0, none⟩) x.fPending.length x.fPending.length, .slice (some ⟨g3, 0, none⟩) x.fNexts.length x.fNexts.length]) ∧ SrcW (some W.heap.size) w' x (some ⟨g0, 0, none⟩) (some ⟨g1, 0, none⟩) (some ⟨g2, 0, none⟩) (some ⟨g3, 0, none⟩)) ∧ Below W.heap.size W w') := fun W h hw => by
  have hb' := hb.below h
  have hws : ty.wtIt x.fStore ≤ 1048576 ∧ ty.wtPr x.fProfiles ≤ 1048576 ∧ ty.wtPe x.fPending ≤ 1048576 ∧ ty.wtNx x.fNexts ≤ 1048576 := by unfold ty.wt1Wo at hw; omega
  refine (ty.to1Wo_any x.fStore x.fProfiles x.fPending x.fNexts a0 c0 a1 c1 a2 c2 a3 c3 W hb'.st hws.1 hb'.pr hws.2.1 hb'.pe hws.2.2.1 hb'.nx hws.2.2.2).mono ?_
  rintro e w' ⟨⟨g0, g1, g2, g3, rfl, q0, q1, q2, q3⟩, hl⟩
  exact ⟨⟨g0, g1, g2, g3, rfl, ⟨q0, q1, q2, q3⟩⟩, hl⟩
 have H_hm : Hid (tt.ML w) := hm
 have H_hT : Hid (wd.TabB w) := hT
 obtain ⟨rs, hrs⟩ : ∃ rs, neeA x s1 = rs := ⟨_, rfl⟩
 have HRL : Hid (ty.wt1Wo x ≤ 1048576 → rs.length ≤ 1000000) := fun w0 => by rw [← hrs]; exact Nat.le_trans (neeA_len x s1) (by omega)
 have HSP : Hid (∀ (lo : Nat) (A0 A1 A2 A3 : Option Addr) (C0 C1 C2 C3 : Nat) W, SrcW (some lo) W x A0 A1 A2 A3 → ty.wt1Wo x ≤ 1048576 → s1.size ≤ 1048576 → Calls Tryz.prog 6 #[.agg #[.slice A0 x.fStore.length C0, .slice A1 x.fProfiles.length C1, .slice A2 x.fPending.length C2, .slice A3 x.fNexts.length C3], .string s1] W fun e w' => (∃ v, e = .returned v ∧ sr.StrR w' v rs) ∧ Below W.heap.size W w') := fun lo A0 A1 A2 A3 C0 C1 C2 C3 W H w0 z1 => by
  rw [← hrs]
  exact (snee_any lo x s1 A0 A1 A2 A3 C0 C1 C2 C3 W H w0).mono (fun e w' h => ⟨⟨h.1.choose, h.1.choose_spec.1, h.1.choose_spec.2.row⟩, h.2⟩)
 have HIP : Hid (∀ (lo : Nat) (A0 A1 A2 A3 : Option Addr) (C0 C1 C2 C3 : Nat) W, SrcW (some lo) W x A0 A1 A2 A3 → ty.wt1Wo x ≤ 1048576 → s1.size ≤ 1048576 → tt.ML W → wd.TabB W → Calls Tryz.prog 8 #[.agg #[.slice A0 x.fStore.length C0, .slice A1 x.fProfiles.length C1, .slice A2 x.fPending.length C2, .slice A3 x.fNexts.length C3], .string s1] W fun e w' => (∃ v, e = .returned v ∧ sr.OwnS W.heap.size w' v rs) ∧ Below W.heap.size W w') := fun lo A0 A1 A2 A3 C0 C1 C2 C3 W H w0 z1 hm hT => by
  rw [← hrs]
  exact inee_any lo x s1 A0 A1 A2 A3 C0 C1 C2 C3 W H w0 hm hT
 have HEQ : Hid (∀ (b0 b1 b2 b3 d0 d1 d2 d3 : Option Addr) (e0 e1 e2 e3 f0 f1 f2 f3 : Nat) W, SrcW none W x b0 b1 b2 b3 → SrcW none W x d0 d1 d2 d3 → ty.wt1Wo x ≤ 1048576 → Calls Tryz.prog 10 #[.agg #[.slice b0 x.fStore.length e0, .slice b1 x.fProfiles.length e1, .slice b2 x.fPending.length e2, .slice b3 x.fNexts.length e3], .agg #[.slice d0 x.fStore.length f0, .slice d1 x.fProfiles.length f1, .slice d2 x.fPending.length f2, .slice d3 x.fNexts.length f3]] W fun e w' => e = .returned (.bool true) ∧ Below W.heap.size W w') := fun b0 b1 b2 b3 d0 d1 d2 d3 e0 e1 e2 e3 f0 f1 f2 f3 W h h' hw => by
  have hws : ty.wtIt x.fStore ≤ 1048576 ∧ ty.wtPr x.fProfiles ≤ 1048576 ∧ ty.wtPe x.fPending ≤ 1048576 ∧ ty.wtNx x.fNexts ≤ 1048576 := by unfold ty.wt1Wo at hw; omega
  exact ty.eq1Wo_any x.fStore x.fProfiles x.fPending x.fNexts b0 d0 e0 f0 b1 d1 e1 f1 b2 d2 e2 f2 b3 d3 e3 f3 W h.st h'.st hws.1 h.pr h'.pr hws.2.1 h.pe h'.pe hws.2.2.1 h.nx h'.nx hws.2.2.2
 have HMK : Hid (∀ (lo hi : Nat) (A0 A1 A2 A3 : Option Addr) (C0 C1 C2 C3 : Nat) W, MWs lo hi W x A0 A1 A2 A3 → hi ≤ W.heap.size → cnW x ≤ 8388608 → Calls Tryz.prog 11 #[.agg #[.slice A0 x.fStore.length C0, .slice A1 x.fProfiles.length C1, .slice A2 x.fPending.length C2, .slice A3 x.fNexts.length C3], .int .i64 1] W fun e w' => e = .returned (.int .i64 ((1 + cnW x : Nat) : Int)) ∧ ty.Rel lo hi W w') := fun lo hi A0 A1 A2 A3 C0 C1 C2 C3 W hM hhi hk => markMW_any lo hi A0 A1 A2 A3 C0 C1 C2 C3 x 1 W hM.st hM.pr hM.pe hM.nx hhi (by omega) (by omega)
 have HCN : Hid (ty.wt1Wo x ≤ 1048576 → cnW x ≤ 8388608) := fun h => by have := cnW_le x; omega
 clear hb s0_ s1_ s2_ s3_ hrs hm hT
 generalize x.fStore.length = n0 at *
 generalize x.fProfiles.length = n1 at *
 generalize x.fPending.length = n2 at *
 generalize x.fNexts.length = n3 at *
 obtain ⟨k0, hk0⟩ : ∃ k, cnW x = k := ⟨_, rfl⟩
 rw [hk0] at HMK HCN
 clear hk0
 have HB0 : Hid (Below w.heap.size w (w.alloc (Obj.cells #[.slice a0 n0 c0, .slice a1 n1 c1, .slice a2 n2 c2, .slice a3 n3 c3] 27))) := (Below.refl _ _).alloc (Nat.le_refl _) _
 have HW0 : Hid (WoC (w.alloc (Obj.cells #[.slice a0 n0 c0, .slice a1 n1 c1, .slice a2 n2 c2, .slice a3 n3 c3] 27)) w.heap.size (.slice a0 n0 c0) (.slice a1 n1 c1) (.slice a2 n2 c2) (.slice a3 n3 c3)) := ⟨by simp [go_sem], by simp [go_sem], by simp [go_sem], by simp [go_sem]⟩
 by_cases hzb1 : 1048576 < s1.size
 ·have hzc1 : (1048576 : Int) < (s1.size : Int) := by omega
  go_enter Tryz.func3, Tryz.ntmps3
  go_wp2
  go_ret
  exact ⟨rfl, HB0.out⟩
 have hzc1 : ¬ (1048576 : Int) < (s1.size : Int) := by omega
 have HZ1 : Hid (s1.size ≤ 1048576) := by show _ ≤ _; omega
 go_enter Tryz.func3, Tryz.ntmps3
 go_wp2_with (go_at_call 5; refine (HSZ.out _ HB0.out).mono ?_; rintro e u0 ⟨⟨r0, rfl, hr0⟩, hlu0⟩; obtain ⟨j0, j1, j2, j3⟩ := HW0.out.below hlu0)
 ·go_ret
  exact ⟨rfl, HB0.out.trans (hlu0.mono HB0.out.size)⟩
 have HW : Hid (ty.wt1Wo x ≤ 1048576) := by
  have h := hr0.resolve_left (by omega)
  show _ ≤ _
  omega
 have HRL1 : Hid (rs.length ≤ 1000000) := HRL.out HW.out
 have HC0 : Hid (k0 ≤ 8388608) := HCN.out HW.out
 have B_u0 : Below w.heap.size w u0 := HB0.out.trans (hlu0.mono HB0.out.size)
 have HK_u0 : Hid (WoC u0 w.heap.size (.slice a0 n0 c0) (.slice a1 n1 c1) (.slice a2 n2 c2) (.slice a3 n3 c3)) := HW0.out.below hlu0
 clear hr0 hlu0
 go_wp2_with (go_at_call 7; refine (HTO.out _ (B_u0) HW.out).mono ?_; rintro e wa ⟨⟨g0, g1, g2, g3, rfl, ho⟩, hl⟩; refine Hid.out ?_)
 refine Lib.hid ?_
 clear j0 j1 j2 j3
 have B_wa : Below w.heap.size w wa := (B_u0).trans (hl.mono (B_u0).size)
 have HK_wa : Hid (WoC wa w.heap.size (.slice a0 n0 c0) (.slice a1 n1 c1) (.slice a2 n2 c2) (.slice a3 n3 c3)) := HK_u0.out.below hl
 have HS : Hid (SrcW (some u0.heap.size) wa x (some ⟨g0, 0, none⟩) (some ⟨g1, 0, none⟩) (some ⟨g2, 0, none⟩) (some ⟨g3, 0, none⟩)) := ho
 clear ho hl
 go_wp2_with (go_at_call 6; refine (HSP.out _ _ _ _ _ _ _ _ _ _ HS.out HW.out HZ1.out).mono ?_; rintro e w3 ⟨⟨v3, rfl, hv3⟩, hl3⟩; refine Hid.out ?_)
 refine Lib.hid ?_
 obtain ⟨a3_, c3_, hve3, hss3⟩ := lw.ss_row hv3
 subst hve3
 have HP : Hid (∀ W, Below w3.heap.size w3 W → st.Ss W a3_ rs.length (lw.fma rs)) := fun W h => hss3.below h
 have B_w3 : Below w.heap.size w w3 := (B_wa).trans (hl3.mono (B_wa).size)
 have HK_w3 : Hid (WoC w3 w.heap.size (.slice a0 n0 c0) (.slice a1 n1 c1) (.slice a2 n2 c2) (.slice a3 n3 c3)) := HK_wa.out.below hl3
 clear hv3 hl3 hss3 HS
 have C_w3 : Below w3.heap.size w3 w3 := Below.refl _ _
 have HKW3 : Hid (WoC w3 w.heap.size (.slice a0 n0 c0) (.slice a1 n1 c1) (.slice a2 n2 c2) (.slice a3 n3 c3)) := HK_w3
 have hw3l : w.heap.size < w3.heap.size := World.block_lt_of_cell? _ _ HK_w3.out.1
 obtain ⟨j0, j1, j2, j3⟩ := HK_w3.out
 go_wp2_with (go_at_call 7; refine (HTO.out _ (B_w3) HW.out).mono ?_; rintro e wx ⟨⟨x0, x1, x2, x3, rfl, ho⟩, hl⟩; refine Hid.out ?_)
 refine Lib.hid ?_
 clear j0 j1 j2 j3
 have B_wx : Below w.heap.size w wx := (B_w3).trans (hl.mono (B_w3).size)
 have C_wx : Below w3.heap.size w3 wx := (C_w3).trans (hl.mono (C_w3).size)
 have HK_wx : Hid (WoC wx w.heap.size (.slice a0 n0 c0) (.slice a1 n1 c1) (.slice a2 n2 c2) (.slice a3 n3 c3)) := HK_w3.out.below hl
 have hlo : w3.heap.size ≤ wx.heap.size := hl.size
 have HX : Hid (SrcW (some w3.heap.size) wx x (some ⟨x0, 0, none⟩) (some ⟨x1, 0, none⟩) (some ⟨x2, 0, none⟩) (some ⟨x3, 0, none⟩)) := ho
 have HM : Hid (MWs w3.heap.size wx.heap.size wx x (some ⟨x0, 0, none⟩) (some ⟨x1, 0, none⟩) (some ⟨x2, 0, none⟩) (some ⟨x3, 0, none⟩)) := MWs.src ho
 clear ho hl
 have HA : Hid (Below wx.heap.size wx (wx.alloc (Obj.cells #[.slice (some ⟨x0, 0, none⟩) n0 n0, .slice (some ⟨x1, 0, none⟩) n1 n1, .slice (some ⟨x2, 0, none⟩) n2 n2, .slice (some ⟨x3, 0, none⟩) n3 n3] 36))) := (Below.refl _ _).alloc (Nat.le_refl _) _
 have HXC0 : Hid (WoC (wx.alloc (Obj.cells #[.slice (some ⟨x0, 0, none⟩) n0 n0, .slice (some ⟨x1, 0, none⟩) n1 n1, .slice (some ⟨x2, 0, none⟩) n2 n2, .slice (some ⟨x3, 0, none⟩) n3 n3] 36)) wx.heap.size (.slice (some ⟨x0, 0, none⟩) n0 n0) (.slice (some ⟨x1, 0, none⟩) n1 n1) (.slice (some ⟨x2, 0, none⟩) n2 n2) (.slice (some ⟨x3, 0, none⟩) n3 n3)) := ⟨by simp [go_sem], by simp [go_sem], by simp [go_sem], by simp [go_sem]⟩
 have BA : Below w.heap.size w (wx.alloc (Obj.cells #[.slice (some ⟨x0, 0, none⟩) n0 n0, .slice (some ⟨x1, 0, none⟩) n1 n1, .slice (some ⟨x2, 0, none⟩) n2 n2, .slice (some ⟨x3, 0, none⟩) n3 n3] 36)) := (B_wx).trans (HA.out.mono (B_wx).size)
 have CA : Below w3.heap.size w3 (wx.alloc (Obj.cells #[.slice (some ⟨x0, 0, none⟩) n0 n0, .slice (some ⟨x1, 0, none⟩) n1 n1, .slice (some ⟨x2, 0, none⟩) n2 n2, .slice (some ⟨x3, 0, none⟩) n3 n3] 36)) := (C_wx).trans (HA.out.mono (C_wx).size)
 have HKA : Hid (WoC (wx.alloc (Obj.cells #[.slice (some ⟨x0, 0, none⟩) n0 n0, .slice (some ⟨x1, 0, none⟩) n1 n1, .slice (some ⟨x2, 0, none⟩) n2 n2, .slice (some ⟨x3, 0, none⟩) n3 n3] 36)) w.heap.size (.slice a0 n0 c0) (.slice a1 n1 c1) (.slice a2 n2 c2) (.slice a3 n3 c3)) := HK_wx.out.below HA.out
 have HXA : Hid (SrcW (some w3.heap.size) (wx.alloc (Obj.cells #[.slice (some ⟨x0, 0, none⟩) n0 n0, .slice (some ⟨x1, 0, none⟩) n1 n1, .slice (some ⟨x2, 0, none⟩) n2 n2, .slice (some ⟨x3, 0, none⟩) n3 n3] 36)) x (some ⟨x0, 0, none⟩) (some ⟨x1, 0, none⟩) (some ⟨x2, 0, none⟩) (some ⟨x3, 0, none⟩)) := HX.out.below HA.out
 have HMA : Hid (MWs w3.heap.size wx.heap.size (wx.alloc (Obj.cells #[.slice (some ⟨x0, 0, none⟩) n0 n0, .slice (some ⟨x1, 0, none⟩) n1 n1, .slice (some ⟨x2, 0, none⟩) n2 n2, .slice (some ⟨x3, 0, none⟩) n3 n3] 36)) x (some ⟨x0, 0, none⟩) (some ⟨x1, 0, none⟩) (some ⟨x2, 0, none⟩) (some ⟨x3, 0, none⟩)) := HM.out.shp (ty.Shp.below HA.out)
 go_wp2_with (go_at_call 8; refine (HIP.out _ _ _ _ _ _ _ _ _ _ HXA.out HW.out HZ1.out (H_hm.out.below BA) (H_hT.out.below BA)).mono ?_; rintro e w5 ⟨⟨v5, rfl, hv5⟩, hl5⟩; refine Hid.out ?_)
 refine Lib.hid ?_
 obtain ⟨g5, c5, hve5, hg5, hgb5⟩ := lw.GB.own hv5
 subst hve5
 have B_w5 : Below w.heap.size w w5 := (BA).trans (hl5.mono (BA).size)
 have C_w5 : Below w3.heap.size w3 w5 := (CA).trans (hl5.mono (CA).size)
 have HK_w5 : Hid (WoC w5 w.heap.size (.slice a0 n0 c0) (.slice a1 n1 c1) (.slice a2 n2 c2) (.slice a3 n3 c3)) := HKA.out.below hl5
 have HX_w5 : Hid (SrcW (some w3.heap.size) w5 x (some ⟨x0, 0, none⟩) (some ⟨x1, 0, none⟩) (some ⟨x2, 0, none⟩) (some ⟨x3, 0, none⟩)) := HXA.out.below hl5
 have HM_w5 : Hid (MWs w3.heap.size wx.heap.size w5 x (some ⟨x0, 0, none⟩) (some ⟨x1, 0, none⟩) (some ⟨x2, 0, none⟩) (some ⟨x3, 0, none⟩)) := HMA.out.shp (ty.Shp.below hl5)
 have HXC_w5 : Hid (WoC w5 wx.heap.size (.slice (some ⟨x0, 0, none⟩) n0 n0) (.slice (some ⟨x1, 0, none⟩) n1 n1) (.slice (some ⟨x2, 0, none⟩) n2 n2) (.slice (some ⟨x3, 0, none⟩) n3 n3)) := HXC0.out.below hl5
 have HG : Hid (lw.GB w5 g5 rs) := hgb5
 have hgx : wx.heap.size ≤ g5 := Nat.le_trans HA.out.size hg5
 have hg3 : w3.heap.size ≤ g5 := Nat.le_trans hlo hgx
 have hgw : w.heap.size ≤ g5 := Nat.le_trans B_w3.size hg3
 clear hv5 hl5 hgb5 HA BA CA HKA HXA HMA HXC0
 go_wp2_with (go_at_call 9; refine (st.eq_any _ _ _ _ _ _ _ HG.out.ss (HP.out _ C_w5) (by have := HRL1.out; omega)).mono ?_; rintro e w6 ⟨rfl, qq, hqq⟩; have hl : Below w5.heap.size w5 w6 := (by rw [hqq]; exact Go.below_drewN (Below.refl _ _) qq); clear hqq; refine Hid.out ?_)
 refine Lib.hid ?_
 have B_w6 : Below w.heap.size w w6 := (B_w5).trans (hl.mono (B_w5).size)
 have C_w6 : Below w3.heap.size w3 w6 := (C_w5).trans (hl.mono (C_w5).size)
 have HK_w6 : Hid (WoC w6 w.heap.size (.slice a0 n0 c0) (.slice a1 n1 c1) (.slice a2 n2 c2) (.slice a3 n3 c3)) := HK_w5.out.below hl
 have HX_w6 : Hid (SrcW (some w3.heap.size) w6 x (some ⟨x0, 0, none⟩) (some ⟨x1, 0, none⟩) (some ⟨x2, 0, none⟩) (some ⟨x3, 0, none⟩)) := HX_w5.out.below hl
 have HM_w6 : Hid (MWs w3.heap.size wx.heap.size w6 x (some ⟨x0, 0, none⟩) (some ⟨x1, 0, none⟩) (some ⟨x2, 0, none⟩) (some ⟨x3, 0, none⟩)) := HM_w5.out.shp (ty.Shp.below hl)
 have HXC_w6 : Hid (WoC w6 wx.heap.size (.slice (some ⟨x0, 0, none⟩) n0 n0) (.slice (some ⟨x1, 0, none⟩) n1 n1) (.slice (some ⟨x2, 0, none⟩) n2 n2) (.slice (some ⟨x3, 0, none⟩) n3 n3)) := HXC_w5.out.below hl
 have HG_w6 : Hid (lw.GB w6 g5 rs) := HG.out.below hl
 clear hl
 have HSS : Hid (∀ W, Below w6.heap.size w6 W → WoC W wx.heap.size (.slice (some ⟨x0, 0, none⟩) n0 n0) (.slice (some ⟨x1, 0, none⟩) n1 n1) (.slice (some ⟨x2, 0, none⟩) n2 n2) (.slice (some ⟨x3, 0, none⟩) n3 n3) ∧ WoC W w.heap.size (.slice a0 n0 c0) (.slice a1 n1 c1) (.slice a2 n2 c2) (.slice a3 n3 c3)) := fun W h => ⟨HXC_w6.out.below h, HK_w6.out.below h⟩
 have HSX : Hid (SrcW none w6 x (some ⟨x0, 0, none⟩) (some ⟨x1, 0, none⟩) (some ⟨x2, 0, none⟩) (some ⟨x3, 0, none⟩)) := HX_w6.out.any
 have HBX : Hid (Below w.heap.size w w6) := B_w6
 have hltb : wx.heap.size < w6.heap.size := World.block_lt_of_cell? _ _ HXC_w6.out.1
 have hltw : w.heap.size < w6.heap.size := World.block_lt_of_cell? _ _ HK_w6.out.1
 obtain ⟨xb, hxb⟩ : ∃ xb, wx.heap.size = xb := ⟨_, rfl⟩
 have hlx : w3.heap.size ≤ xb := hxb ▸ hlo
 rw [hxb] at HSS hltb
 unfold WoC at HSS
 go_wp2_with fail
 go_region_held3 (fun w' => (w'.cell? ⟨xb, 0, none⟩ = some (.slice (some ⟨x0, 0, none⟩) n0 n0) ∧ w'.cell? ⟨xb, 1, none⟩ = some (.slice (some ⟨x1, 0, none⟩) n1 n1) ∧ w'.cell? ⟨xb, 2, none⟩ = some (.slice (some ⟨x2, 0, none⟩) n2 n2) ∧ w'.cell? ⟨xb, 3, none⟩ = some (.slice (some ⟨x3, 0, none⟩) n3 n3)) ∧ w'.cell? ⟨w.heap.size, 0, none⟩ = some (.slice a0 n0 c0) ∧ w'.cell? ⟨w.heap.size, 1, none⟩ = some (.slice a1 n1 c1) ∧ w'.cell? ⟨w.heap.size, 2, none⟩ = some (.slice a2 n2 c2) ∧ w'.cell? ⟨w.heap.size, 3, none⟩ = some (.slice a3 n3 c3))
  (first | exact HSS.out _ (Below.refl _ _).drew | exact HSS.out _ hb8 | exact HSS.out _ hb7 | exact HSS.out _ (Below.refl _ _) | go_keep)
  (first
   | (go_at_call 7; refine (HTO.out _ HBX.out.drew HW.out).mono ?_; rintro e w7 ⟨⟨d0, d1, d2, d3, rfl, ho7⟩, hl7⟩; have hb7 : Below w6.heap.size w6 w7 := (Below.refl w6.heap.size w6).drew.trans hl7; have hs7 := HSX.out.below hb7)
   | (go_at_call 10; refine (HEQ.out _ _ _ _ _ _ _ _ _ _ _ _ _ _ _ _ _ hs7 ho7.any HW.out).mono ?_; rintro e w8 ⟨rfl, hl8⟩; have hb8 : Below w6.heap.size w6 w8 := hb7.trans (hl8.mono hb7.size)))
 refine Hid.out ?_
 refine Lib.hid ?_
 clear hs7 ho7 hl7 hl8 hb7 HSS HSX HBX
 have B_w8 : Below w.heap.size w w8 := (B_w6).trans (hb8.mono (B_w6).size)
 have C_w8 : Below w3.heap.size w3 w8 := (C_w6).trans (hb8.mono (C_w6).size)
 have HK_w8 : Hid (WoC w8 w.heap.size (.slice a0 n0 c0) (.slice a1 n1 c1) (.slice a2 n2 c2) (.slice a3 n3 c3)) := HK_w6.out.below hb8
 have HM_w8 : Hid (MWs w3.heap.size wx.heap.size w8 x (some ⟨x0, 0, none⟩) (some ⟨x1, 0, none⟩) (some ⟨x2, 0, none⟩) (some ⟨x3, 0, none⟩)) := HM_w6.out.shp (ty.Shp.below hb8)
 have HXC_w8 : Hid (WoC w8 wx.heap.size (.slice (some ⟨x0, 0, none⟩) n0 n0) (.slice (some ⟨x1, 0, none⟩) n1 n1) (.slice (some ⟨x2, 0, none⟩) n2 n2) (.slice (some ⟨x3, 0, none⟩) n3 n3)) := HXC_w6.out.below hb8
 have HG_w8 : Hid (lw.GB w8 g5 rs) := HG_w6.out.below hb8
 clear hb8
 obtain ⟨v0_, v1_, v2_, v3_⟩ := HXC_w8.out
 rw [hxb] at v0_ v1_ v2_ v3_
 have HMC : Hid (∀ W, MWs w3.heap.size wx.heap.size W x (some ⟨x0, 0, none⟩) (some ⟨x1, 0, none⟩) (some ⟨x2, 0, none⟩) (some ⟨x3, 0, none⟩) → wx.heap.size ≤ W.heap.size → Calls Tryz.prog 11 #[.agg #[.slice (some ⟨x0, 0, none⟩) n0 n0, .slice (some ⟨x1, 0, none⟩) n1 n1, .slice (some ⟨x2, 0, none⟩) n2 n2, .slice (some ⟨x3, 0, none⟩) n3 n3], .int .i64 1] W fun e w' => e = .returned (.int .i64 ((1 + k0 : Nat) : Int)) ∧ ty.Rel w3.heap.size wx.heap.size W w') := fun W h h2 => HMK.out _ _ _ _ _ _ _ _ _ _ W h h2 HC0.out
 obtain ⟨K0, hK0⟩ : ∃ K : Nat, 1 + k0 = K := ⟨_, rfl⟩
 rw [hK0] at HMC
 have hKb0 : 0 < K0 ∧ K0 ≤ 8388609 := by have := HC0.out; omega
 have hKn : ¬ (K0 : Int) < 0 := by omega
 clear hK0
 have hxs : wx.heap.size ≤ w8.heap.size := by rw [hxb]; exact Nat.le_of_lt (World.block_lt_of_cell? _ _ v0_)
 go_wp2_with (go_at_call 11; refine (HMC.out _ HM_w8.out hxs).mono ?_; rintro e wm ⟨rfl, hR⟩; refine Hid.out ?_)
 refine Lib.hid ?_
 clear v0_ v1_ v2_ v3_
 have B_wm : Below w.heap.size w wm := (B_w8).trans (hR.toBelow B_w3.size (B_w8).size)
 have C_wm : Below w3.heap.size w3 wm := (C_w8).trans (hR.toBelow (Nat.le_refl _) (C_w8).size)
 have HG_wm : Hid (lw.GB wm g5 rs) := HG_w8.out.of (hR.2.2.1 g5 HG_w8.out.lt (.inr hgx))
 have HK_wm : Hid (WoC wm w.heap.size (.slice a0 n0 c0) (.slice a1 n1 c1) (.slice a2 n2 c2) (.slice a3 n3 c3)) := by
  obtain ⟨y0, y1, y2, y3⟩ := HK_w8.out
  have hbk := hR.2.2.1 w.heap.size (World.block_lt_of_cell? _ _ y0) (.inl (by have := hw3l; omega))
  exact ⟨(World.cell?_of_block (a := ⟨w.heap.size, 0, none⟩) hbk).trans y0, (World.cell?_of_block (a := ⟨w.heap.size, 1, none⟩) hbk).trans y1, (World.cell?_of_block (a := ⟨w.heap.size, 2, none⟩) hbk).trans y2, (World.cell?_of_block (a := ⟨w.heap.size, 3, none⟩) hbk).trans y3⟩
 clear hR
 go_wp2_with (go_at_call 9; refine (st.eq_any _ _ _ _ _ _ _ HG_wm.out.ss (HP.out _ C_wm) (by have := HRL1.out; omega)).mono ?_; rintro e w9 ⟨rfl, qq, hqq⟩; have hl : Below wm.heap.size wm w9 := (by rw [hqq]; exact Go.below_drewN (Below.refl _ _) qq); clear hqq; refine Hid.out ?_)
 refine Lib.hid ?_
 have B_w9 : Below w.heap.size w w9 := (B_wm).trans (hl.mono (B_wm).size)
 have C_w9 : Below w3.heap.size w3 w9 := (C_wm).trans (hl.mono (C_wm).size)
 have HK_w9 : Hid (WoC w9 w.heap.size (.slice a0 n0 c0) (.slice a1 n1 c1) (.slice a2 n2 c2) (.slice a3 n3 c3)) := HK_wm.out.below hl
 have HG_w9 : Hid (lw.GB w9 g5 rs) := HG_wm.out.below hl
 clear hl
 go_wp2_with (go_at_call 12; refine (sr.markS_any g5 0 rs.length c5 1 _ HG_w9.out.mk w3.heap.size hg3 (C_w9).size (by omega) (by have := HRL1.out; omega)).mono ?_; rintro e w10 ⟨rfl, hmk, hl⟩; refine Hid.out ?_)
 refine Lib.hid ?_
 have C_w10 : Below w3.heap.size w3 w10 := (C_w9).trans hl
 have B_w10 : Below w.heap.size w w10 := (B_w9).trans (hl.mono B_w3.size)
 have HKQ : Hid (sr.MkR w10 g5 0 rs.length 1 rs.length) := hmk
 have HK_w10 : Hid (WoC w10 w.heap.size (.slice a0 n0 c0) (.slice a1 n1 c1) (.slice a2 n2 c2) (.slice a3 n3 c3)) := HKW3.out.below C_w10
 clear hmk hl HG_w9
 go_wp2_with (go_at_call 13; refine (sr.heldS_any g5 0 rs.length c5 1 _ HKQ.out (by omega) (by have := HRL1.out; omega)).mono ?_; rintro e w11 ⟨rfl, hl⟩; refine Hid.out ?_)
 refine Lib.hid ?_
 have B_w11 : Below w.heap.size w w11 := (B_w10).trans (hl.mono (B_w10).size)
 have C_w11 : Below w3.heap.size w3 w11 := (C_w10).trans (hl.mono (C_w10).size)
 have HK_w11 : Hid (WoC w11 w.heap.size (.slice a0 n0 c0) (.slice a1 n1 c1) (.slice a2 n2 c2) (.slice a3 n3 c3)) := HK_w10.out.below hl
 have HKQ_w11 : Hid (sr.MkR w11 g5 0 rs.length 1 rs.length) := HKQ.out.below hl
 clear hl
 obtain ⟨j0, j1, j2, j3⟩ := HK_w11.out
 go_wp2_with (go_at_call 7; refine (HTO.out _ (B_w11) HW.out).mono ?_; rintro e wc ⟨⟨h0, h1, h2, h3, rfl, ho⟩, hl⟩; refine Hid.out ?_)
 refine Lib.hid ?_
 clear j0 j1 j2 j3
 have B_wc : Below w.heap.size w wc := (B_w11).trans (hl.mono (B_w11).size)
 have C_wc : Below w3.heap.size w3 wc := (C_w11).trans (hl.mono (C_w11).size)
 have HK_wc : Hid (WoC wc w.heap.size (.slice a0 n0 c0) (.slice a1 n1 c1) (.slice a2 n2 c2) (.slice a3 n3 c3)) := HK_w11.out.below hl
 have HKQ_wc : Hid (sr.MkR wc g5 0 rs.length 1 rs.length) := HKQ_w11.out.below hl
 have HV : Hid (SrcW (some w11.heap.size) wc x (some ⟨h0, 0, none⟩) (some ⟨h1, 0, none⟩) (some ⟨h2, 0, none⟩) (some ⟨h3, 0, none⟩)) := ho
 clear ho hl
 go_wp2_with (go_at_call 8; refine (HIP.out _ _ _ _ _ _ _ _ _ _ HV.out HW.out HZ1.out (H_hm.out.below B_wc) (H_hT.out.below B_wc)).mono ?_; rintro e w13 ⟨⟨v13, rfl, hv13⟩, hl⟩; refine Hid.out ?_)
 refine Lib.hid ?_
 obtain ⟨a13, c13, hve13, hss13⟩ := lw.ss_row hv13.row
 subst hve13
 have B_w13 : Below w.heap.size w w13 := (B_wc).trans (hl.mono (B_wc).size)
 have C_w13 : Below w3.heap.size w3 w13 := (C_wc).trans (hl.mono (C_wc).size)
 have HK_w13 : Hid (WoC w13 w.heap.size (.slice a0 n0 c0) (.slice a1 n1 c1) (.slice a2 n2 c2) (.slice a3 n3 c3)) := HK_wc.out.below hl
 have HKQ_w13 : Hid (sr.MkR w13 g5 0 rs.length 1 rs.length) := HKQ_wc.out.below hl
 have HQ13 : Hid (st.Ss w13 a13 rs.length (lw.fma rs)) := hss13
 clear hv13 hl hss13 HV
 go_wp2_with (go_at_call 9; refine (st.eq_any _ _ _ _ _ _ _ HQ13.out (HP.out _ C_w13) (by have := HRL1.out; omega)).mono ?_; rintro e w14 ⟨rfl, qq, hqq⟩; have hl : Below w13.heap.size w13 w14 := (by rw [hqq]; exact Go.below_drewN (Below.refl _ _) qq); clear hqq; refine Hid.out ?_)
 refine Lib.hid ?_
 have B_w14 : Below w.heap.size w w14 := (B_w13).trans (hl.mono (B_w13).size)
 have C_w14 : Below w3.heap.size w3 w14 := (C_w13).trans (hl.mono (C_w13).size)
 have HK_w14 : Hid (WoC w14 w.heap.size (.slice a0 n0 c0) (.slice a1 n1 c1) (.slice a2 n2 c2) (.slice a3 n3 c3)) := HK_w13.out.below hl
 have HKQ_w14 : Hid (sr.MkR w14 g5 0 rs.length 1 rs.length) := HKQ_w13.out.below hl
 clear hl
 go_wp2_with (go_at_call 13; refine (sr.heldS_any g5 0 rs.length c5 1 _ HKQ_w14.out (by omega) (by have := HRL1.out; omega)).mono ?_; rintro e w15 ⟨rfl, hl⟩; refine Hid.out ?_)
 refine Lib.hid ?_
 have B_w15 : Below w.heap.size w w15 := (B_w14).trans (hl.mono (B_w14).size)
 have C_w15 : Below w3.heap.size w3 w15 := (C_w14).trans (hl.mono (C_w14).size)
 have HK_w15 : Hid (WoC w15 w.heap.size (.slice a0 n0 c0) (.slice a1 n1 c1) (.slice a2 n2 c2) (.slice a3 n3 c3)) := HK_w14.out.below hl
 have HKQ_w15 : Hid (sr.MkR w15 g5 0 rs.length 1 rs.length) := HKQ_w14.out.below hl
 clear hl
 go_wp2
 go_ret
 exact ⟨rfl, B_w15⟩
end Go.Proofs.YtjbdklkingfmpaaGreatDoor.so
