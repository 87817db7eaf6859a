import Derived.Test.YthbgpfjbfkiljaaGreatDoorG28
set_option linter.unusedVariables false
set_option linter.unusedSimpArgs false
set_option maxRecDepth 100000
set_option maxHeartbeats 16000000
namespace Go.Proofs.YthbgpfjbfkiljaaGreatDoor.so
open Go.ChangeShapes Go.WideShapes Go.ChangeAt Go.RowKit Go.Deep Go.Shelf Go.Maps
theorem hasit_any (a0 : Option Addr) (c0 : Nat) (ps : List ty.It) (v1 v2 v3 : Value) (q : ByteArray) (w : World) (hb : ty.SrcIt none w a0 ps) (hn : ps.length ≤ 300) (hasc : AscI ps) :
  Calls Tryz.prog 103 #[.agg #[.slice a0 ps.length c0, v1, v2, v3], .string q] w fun e w' => e = .returned (.bool (hasB ps q)) ∧ Below w.heap.size w w' := by
 have HI := Lib.hid fun (W : World) (h : Below w.heap.size w W) => inum_any a0 c0 ps q W (hb.below h) hn hasc
 clear hb hasc
 generalize hasB ps q = V at *
 generalize ps.length = n at *
 go_enter Tryz.func103, Tryz.ntmps103
 go_wp2_with (go_at_call 104; refine (HI.out _ ((Below.refl _ _).alloc (Nat.le_refl _) _)).mono ?_; rintro e w1 ⟨⟨J, hJ, rfl⟩, hl1⟩)
 go_ret
 exact ⟨rfl, ((Below.refl _ _).alloc (Nat.le_refl _) _).trans (hl1.mono (by simp))⟩
def WoC (w : World) (wb : Nat) (v0 v1 v2 v3 : Value) : Prop := w.cell? ⟨wb, 0, none⟩ = some v0 ∧ w.cell? ⟨wb, 1, none⟩ = some v1 ∧ w.cell? ⟨wb, 2, none⟩ = some v2 ∧ w.cell? ⟨wb, 3, none⟩ = some v3
theorem WoC.below {w w' : World} {wb : Nat} {v0 v1 v2 v3 : Value} (h : WoC w wb v0 v1 v2 v3) (hb : Below w.heap.size w w') : WoC w' wb v0 v1 v2 v3 := by
 have hl := World.block_lt_of_cell? _ _ h.1
 exact ⟨(hb.cell (p := ⟨wb, 0, none⟩) hl).trans h.1, (hb.cell (p := ⟨wb, 1, none⟩) hl).trans h.2.1, (hb.cell (p := ⟨wb, 2, none⟩) hl).trans h.2.2.1, (hb.cell (p := ⟨wb, 3, none⟩) hl).trans h.2.2.2⟩
theorem hag1_any (a0 : Option Addr) (c0 : Nat) (ps : List ty.It) (v1 v2 v3 : Value) (wb : Nat) (z : Int) (q : ByteArray) (w : World) (hb : ty.SrcIt none w a0 ps) (hn : ps.length ≤ 300) (hasc : AscI ps) (hW : WoC w wb (.slice a0 ps.length c0) v1 v2 v3) :
  Calls Tryz.prog 102 #[.agg #[.int .i64 z, .string q], .pointer (some ⟨wb, 0, none⟩)] w fun e w' => e = .returned (.bool (!hasB ps q)) ∧ Below w.heap.size w w' := by
 have HI := Lib.hid fun (W : World) (h : Below w.heap.size w W) => hasit_any a0 c0 ps v1 v2 v3 q W (hb.below h) hn hasc
 obtain ⟨h0, h1, h2, h3⟩ := hW
 have hwl := World.block_lt_of_cell? _ _ h0
 clear hb hasc
 generalize hasB ps q = V at *
 generalize ps.length = n at *
 go_enter Tryz.func102, Tryz.ntmps102
 go_wp2_with (go_at_call 103; refine (HI.out _ ((Below.refl _ _).alloc (Nat.le_refl _) _)).mono ?_; rintro e w1 ⟨rfl, hl1⟩)
 go_ret
 exact ⟨by first | rfl | simp, ((Below.refl _ _).alloc (Nat.le_refl _) _).trans (hl1.mono (by simp))⟩
theorem ixge_any (a : Option Addr) (c : Nat) (l : List ty.Ge) (ps : List ty.It) (wb : Nat) (w : World) (hb : ty.SrcGe none w a l) (hn : l.length ≤ 1048576)
  (HC : Hid (∀ (z : Int) (q : ByteArray) W, Below w.heap.size w W → Calls Tryz.prog 102 #[.agg #[.int .i64 z, .string q], .pointer (some ⟨wb, 0, none⟩)] W fun e w' => e = .returned (.bool (!hasB ps q)) ∧ Below W.heap.size W w')) :
  Calls Tryz.prog 133 #[.slice a l.length c, .func (.func 102) #[] #[.pointer (some ⟨wb, 0, none⟩)]] w fun e w' => (∃ r : Int, e = .returned (.int .i64 r) ∧ (0 ≤ r ∧ genB ps l = false ∨ r = -1 ∧ genB ps l = true)) ∧ Below w.heap.size w w' := by
 have HR : Hid (ty.SrcGe none w a l) := hb
 have HNO : Hid (∀ (i : Nat) (x : ty.Ge), l[i]? = some x → hasB ps x.fPath = false → genB ps l = false) := fun i x hx h => by
  unfold genB
  rw [List.all_eq_false]
  exact ⟨x, List.mem_of_getElem? hx, by rw [h]; decide⟩
 have HYE : Hid ((∀ (i : Nat) (x : ty.Ge), i < l.length → l[i]? = some x → hasB ps x.fPath = true) → genB ps l = true) := fun h => by
  unfold genB
  rw [List.all_eq_true]
  intro x hx
  obtain ⟨i, hi⟩ := List.getElem?_of_mem hx
  exact h i x (List.getElem?_eq_some_iff.1 hi).1 hi
 obtain ⟨V, hV⟩ : ∃ V, genB ps l = V := ⟨_, rfl⟩
 rw [hV] at HNO HYE ⊢
 obtain ⟨n, hnn⟩ : ∃ n, l.length = n := ⟨_, rfl⟩
 have HNN : Hid (l.length = n) := hnn
 rw [hnn] at hn HYE ⊢
 clear hb hnn hV
 go_enter Tryz.func133, Tryz.ntmps133
 go_wp2
 go_loopw [5, 8] (fun _ y wr => ∃ i : Nat, i ≤ n ∧ y = .int .i64 (i : Int) ∧ (∀ (j : Nat) (y : ty.Ge), j < i → l[j]? = some y → hasB ps y.fPath = true) ∧ Below w.heap.size w wr) (fun _ y _ => n - (intOf y).toNat)
 case atStart => exact ⟨0, Nat.zero_le _, rfl, fun j y h => by omega, Below.refl _ _⟩
 case round =>
  obtain ⟨i, hi, rfl, h1, hbel⟩ := hrel
  have H1 := Lib.hid h1
  have HBE : Hid (Below w.heap.size w wr) := hbel
  clear h1
  by_cases hin : i < n
  ·have hin' : (i : Int) < (n : Int) := by omega
   have hi0 : (0 : Int) ≤ (i : Int) := by omega
   obtain ⟨x, hx⟩ : ∃ x, l[i]? = some x := ⟨_, List.getElem?_eq_getElem (by rw [HNN.out]; exact hin)⟩
   rcases HR.out with h | ⟨b, o, rfl, _, hc⟩
   ·rw [h.2] at hx; simp at hx
   obtain ⟨q0, q1⟩ := (hc i x hx).below hbel
   have HX : Hid (l[i]? = some x) := hx
   have HCM : Hid (Calls Tryz.prog 102 #[.agg #[.int .i64 x.fN, .string x.fPath], .pointer (some ⟨wb, 0, none⟩)] wr fun e w' => e = .returned (.bool (!hasB ps x.fPath)) ∧ Below wr.heap.size wr w') := HC.out _ _ wr hbel
   obtain ⟨B, hB⟩ : ∃ B, hasB ps x.fPath = B := ⟨_, rfl⟩
   rw [hB] at HCM
   have HBB : Hid (hasB ps x.fPath = B) := hB
   obtain ⟨g0, hg0⟩ : ∃ z, x.fN = z := ⟨_, rfl⟩
   obtain ⟨g1, hg1⟩ : ∃ z, x.fPath = z := ⟨_, rfl⟩
   rw [hg0] at q0 HCM
   rw [hg1] at q1 HCM
   clear hg0 hg1 hbel hc hx hB
   cases B with
   | false =>
    rw [Bool.not_false] at HCM
    have HF : Hid (V = false) := HNO.out i x HX.out HBB.out
    go_wp2_with (go_at_call 102; refine HCM.out.mono ?_; rintro e w1 ⟨rfl, hl1⟩)
    go_ret
    exact ⟨⟨_, rfl, .inl ⟨hi0, HF.out⟩⟩, HBE.out.trans (hl1.mono HBE.out.size)⟩
   | true =>
    rw [Bool.not_true] at HCM
    have HN : Hid (∀ (j : Nat) (y : ty.Ge), j < i + 1 → l[j]? = some y → hasB ps y.fPath = true) := fun j y hj hy => by
     rcases Nat.lt_or_ge j i with h | h
     ·exact H1.out j y h hy
     ·obtain rfl : j = i := by omega
      rw [HX.out] at hy
      cases hy
      exact HBB.out
    go_wp2_with (go_at_call 102; refine HCM.out.mono ?_; rintro e w1 ⟨rfl, hl1⟩)
    go_roundw
    case rel => exact ⟨i + 1, by omega, by go_num, HN.out, HBE.out.trans (hl1.mono HBE.out.size)⟩
    case measure => simp [intOf] <;> omega
  ·have hin' : ¬ (i : Int) < (n : Int) := by omega
   obtain rfl : i = n := by omega
   have HF : Hid (V = true) := HYE.out H1.out
   clear hbel
   go_wp2
   go_ret
   exact ⟨⟨_, rfl, .inr ⟨rfl, HF.out⟩⟩, HBE.out⟩
theorem conge_any (a : Option Addr) (c : Nat) (l : List ty.Ge) (ps : List ty.It) (wb : Nat) (w : World) (hb : ty.SrcGe none w a l) (hn : l.length ≤ 1048576)
  (HC : Hid (∀ (z : Int) (q : ByteArray) W, Below w.heap.size w W → Calls Tryz.prog 102 #[.agg #[.int .i64 z, .string q], .pointer (some ⟨wb, 0, none⟩)] W fun e w' => e = .returned (.bool (!hasB ps q)) ∧ Below W.heap.size W w')) :
  Calls Tryz.prog 101 #[.slice a l.length c, .func (.func 102) #[] #[.pointer (some ⟨wb, 0, none⟩)]] w fun e w' => e = .returned (.bool (!genB ps l)) ∧ Below w.heap.size w w' := by
 have HI : Hid (∀ W : World, W = w → Calls Tryz.prog 133 #[.slice a l.length c, .func (.func 102) #[] #[.pointer (some ⟨wb, 0, none⟩)]] W fun e w' => (∃ r : Int, e = .returned (.int .i64 r) ∧ (0 ≤ r ∧ genB ps l = false ∨ r = -1 ∧ genB ps l = true)) ∧ Below W.heap.size W w') := fun W h => by subst h; exact ixge_any a c l ps wb W hb hn HC
 clear hb HC
 generalize l.length = n at *
 generalize genB ps l = V at *
 go_enter Tryz.func101, Tryz.ntmps101
 go_wp2_with (go_at_call 133; refine (HI.out _ rfl).mono ?_; rintro e w1 ⟨⟨r, rfl, hr⟩, hl1⟩)
 go_ret
 refine ⟨?_, hl1⟩
 rcases hr with ⟨h1, h2⟩ | ⟨h1, h2⟩
 ·rw [h2]
  simp [h1]
 ·rw [h2]
  subst h1
  simp
theorem hag_any (a0 a1 : Option Addr) (c0 c1 : Nat) (ps : List ty.It) (l : List ty.Pr) (v2 v3 : Value) (w : World) (hb : ty.SrcIt none w a0 ps) (hn : ps.length ≤ 300) (hasc : AscI ps) (hb1 : ty.SrcPr none w a1 l) (hw1 : ty.wtPr l ≤ 1048576) :
  Calls Tryz.prog 61 #[.agg #[.slice a0 ps.length c0, .slice a1 l.length c1, v2, v3]] w fun e w' => e = .returned (.bool (gensB ps l)) ∧ Below w.heap.size w w' := by
 have hn1 : l.length ≤ 1048576 := by have := ty.wtPr_len l; omega
 have HR : Hid (ty.SrcPr none w a1 l) := hb1
 have HWG : Hid (∀ x ∈ l, x.fGens.length ≤ 1048576) := fun x hx => by
  have := ty.wtPr_mem hx
  have := ty.wtGe_len x.fGens
  unfold ty.wt1Pr at *
  omega
 have HC : Hid (∀ (z : Int) (q : ByteArray) W, Below w.heap.size w W → WoC W w.heap.size (.slice a0 ps.length c0) (.slice a1 l.length c1) v2 v3 → Calls Tryz.prog 102 #[.agg #[.int .i64 z, .string q], .pointer (some ⟨w.heap.size, 0, none⟩)] W fun e w' => e = .returned (.bool (!hasB ps q)) ∧ Below W.heap.size W w') := fun z q W h hW => hag1_any a0 c0 ps _ v2 v3 w.heap.size z q W (hb.below h) hn hasc hW
 have HNO : Hid (∀ (i : Nat) (x : ty.Pr), l[i]? = some x → genB ps x.fGens = false → gensB ps l = false) := fun i x hx h => by
  unfold gensB
  rw [List.all_eq_false]
  exact ⟨x, List.mem_of_getElem? hx, by rw [h]; decide⟩
 have HYE : Hid ((∀ (i : Nat) (x : ty.Pr), i < l.length → l[i]? = some x → genB ps x.fGens = true) → gensB ps l = true) := fun h => by
  unfold gensB
  rw [List.all_eq_true]
  intro x hx
  obtain ⟨i, hi⟩ := List.getElem?_of_mem hx
  exact h i x (List.getElem?_eq_some_iff.1 hi).1 hi
 obtain ⟨V, hV⟩ : ∃ V, gensB ps l = V := ⟨_, rfl⟩
 rw [hV] at HNO HYE ⊢
 obtain ⟨n, hnn⟩ : ∃ n, l.length = n := ⟨_, rfl⟩
 have HNN : Hid (l.length = n) := hnn
 obtain ⟨n0, hn0⟩ : ∃ n, ps.length = n := ⟨_, rfl⟩
 rw [hnn] at hn1 HYE HC ⊢
 rw [hn0] at HC ⊢
 have HW0 : Hid (WoC (w.alloc (Obj.cells #[.slice a0 n0 c0, .slice a1 n c1, v2, v3] 39)) w.heap.size (.slice a0 n0 c0) (.slice a1 n c1) v2 v3) := ⟨by simp [go_sem], by simp [go_sem], by simp [go_sem], by simp [go_sem]⟩
 clear hb hb1 hw1 hasc hnn hV hn0 hn
 go_enter Tryz.func61, Tryz.ntmps61
 go_wp2
 go_loopw [4, 8] (fun _ y wr => ∃ i : Nat, i ≤ n ∧ y = .int .i64 (i : Int) ∧ (∀ (j : Nat) (y : ty.Pr), j < i → l[j]? = some y → genB ps y.fGens = true) ∧ WoC wr w.heap.size (.slice a0 n0 c0) (.slice a1 n c1) v2 v3 ∧ Below w.heap.size w wr) (fun _ y _ => n - (intOf y).toNat)
 case atStart => exact ⟨0, Nat.zero_le _, rfl, fun j y h => by omega, HW0.out, (Below.refl _ _).alloc (Nat.le_refl _) _⟩
 case round =>
  obtain ⟨i, hi, rfl, h1, hwc, hbel⟩ := hrel
  have H1 := Lib.hid h1
  have HBE : Hid (Below w.heap.size w wr) := hbel
  have HWC := Lib.hid hwc
  clear h1
  by_cases hin : i < n
  ·have hin' : (i : Int) < (n : Int) := by omega
   have hi0 : (0 : Int) ≤ (i : Int) := by omega
   obtain ⟨x, hx⟩ : ∃ x, l[i]? = some x := ⟨_, List.getElem?_eq_getElem (by rw [HNN.out]; exact hin)⟩
   rcases HR.out with h | ⟨b, o, rfl, _, hc⟩
   ·rw [h.2] at hx; simp at hx
   obtain ⟨a2, c2, q0, q1, q2, s2, t2⟩ := (hc i x hx).below hbel
   have HX : Hid (l[i]? = some x) := hx
   have HCO : Hid (∀ ob, Calls Tryz.prog 101 #[.slice a2 x.fGens.length c2, .func (.func 102) #[] #[.pointer (some ⟨w.heap.size, 0, none⟩)]] (wr.alloc ob) fun e w' => e = .returned (.bool (!genB ps x.fGens)) ∧ Below (wr.alloc ob).heap.size (wr.alloc ob) w') := fun ob => by
    have hb1 : Below wr.heap.size wr (wr.alloc ob) := (Below.refl _ _).alloc (Nat.le_refl _) _
    exact conge_any a2 c2 x.fGens ps w.heap.size (wr.alloc ob) (s2.below hb1) (HWG.out x (List.mem_of_getElem? hx)) fun z q W hW => HC.out z q W ((hbel.trans (hb1.mono hbel.size)).trans (hW.mono (hbel.trans (hb1.mono hbel.size)).size)) ((hwc.below hb1).below hW)
   obtain ⟨B, hB⟩ : ∃ B, genB ps x.fGens = B := ⟨_, rfl⟩
   rw [hB] at HCO
   have HBB : Hid (genB ps x.fGens = B) := hB
   obtain ⟨w0, w1, w2, w3⟩ := hwc
   obtain ⟨g0, hg0⟩ : ∃ z, x.fName = z := ⟨_, rfl⟩
   obtain ⟨g1, hg1⟩ : ∃ z, x.fNow = z := ⟨_, rfl⟩
   obtain ⟨g2, hg2⟩ : ∃ z, x.fGens.length = z := ⟨_, rfl⟩
   rw [hg0] at q0
   rw [hg1] at q1
   rw [hg2] at q2 HCO
   have HB1 : Hid (∀ ob, Below w.heap.size w (wr.alloc ob)) := fun ob => hbel.alloc hbel.size _
   have HW1 : Hid (∀ ob W, Below (wr.alloc ob).heap.size (wr.alloc ob) W → WoC W w.heap.size (.slice a0 n0 c0) (.slice (some ⟨b, o, none⟩) n c1) v2 v3) := fun ob W h => (HWC.out.below ((Below.refl _ _).alloc (Nat.le_refl _) _)).below h
   clear hg0 hg1 hg2 hbel hc hx hB s2 t2
   cases B with
   | false =>
    rw [Bool.not_false] at HCO
    have HF : Hid (V = false) := HNO.out i x HX.out HBB.out
    go_wp2_with (go_at_call 101; refine (HCO.out _).mono ?_; rintro e w1 ⟨rfl, hl1⟩)
    go_ret
    exact ⟨by rw [HF.out]; rfl, (HB1.out _).trans (hl1.mono (HB1.out _).size)⟩
   | true =>
    rw [Bool.not_true] at HCO
    have HN : Hid (∀ (j : Nat) (y : ty.Pr), j < i + 1 → l[j]? = some y → genB ps y.fGens = true) := fun j y hj hy => by
     rcases Nat.lt_or_ge j i with h | h
     ·exact H1.out j y h hy
     ·obtain rfl : j = i := by omega
      rw [HX.out] at hy
      cases hy
      exact HBB.out
    go_wp2_with (go_at_call 101; refine (HCO.out _).mono ?_; rintro e w1 ⟨rfl, hl1⟩)
    go_roundw
    case rel => exact ⟨i + 1, by omega, by go_num, HN.out, HW1.out _ _ hl1, (HB1.out _).trans (hl1.mono (HB1.out _).size)⟩
    case measure => simp [intOf] <;> omega
  ·have hin' : ¬ (i : Int) < (n : Int) := by omega
   obtain rfl : i = n := by omega
   have HF : Hid (V = true) := HYE.out H1.out
   obtain ⟨w0, w1, w2, w3⟩ := hwc
   clear hbel
   go_wp2
   go_ret
   exact ⟨by rw [HF.out]; rfl, HBE.out⟩
theorem asc_of {ps : List ty.It} (h : stB ps = true) : AscI ps := fun i j x y hji hy hx => asc_lt (st_facts h).2 i j x y hji hy hx
theorem iwo_any (lo : Nat) (x : ty.Wo) (a0 a1 a2 a3 : Option Addr) (c0 c1 c2 c3 : Nat) (w : World) (h0 : ty.SrcIt (some lo) w a0 x.fStore) (h1 : ty.SrcPr (some lo) w a1 x.fProfiles) (h2 : ty.SrcPe (some lo) w a2 x.fPending) (h3 : ty.SrcNx (some lo) w a3 x.fNexts) (hw : ty.wt1Wo x ≤ 1048576) (hm : tt.ML w) (hT : wd.TabB w) :
  Calls Tryz.prog 27 #[.agg #[.slice a0 x.fStore.length c0, .slice a1 x.fProfiles.length c1, .slice a2 x.fPending.length c2, .slice a3 x.fNexts.length c3]] w fun e w' => e = .returned (.bool (woB x)) ∧ Below w.heap.size w w' := by
 have hws : ty.wtIt x.fStore ≤ 1048576 ∧ ty.wtPr x.fProfiles ≤ 1048576 ∧ ty.wtPe x.fPending ≤ 1048576 ∧ ty.wtNx x.fNexts ≤ 1048576 := by unfold ty.wt1Wo at hw; omega
 have HS := Lib.hid fun (W : World) (h : Below w.heap.size w W) => istore_any lo a0 c0 x.fStore W (h0.below h) hws.1 (hm.below h) (hT.below h)
 have HP : Hid (∀ W, Below w.heap.size w W → Calls Tryz.prog 58 #[.slice a1 x.fProfiles.length c1] W fun e w' => e = .returned (.bool (pf.psB (x.fProfiles.map prX))) ∧ Below W.heap.size W w') := fun W h => by
  have := pf.ips_any (x.fProfiles.map prX) a1 c1 W (src_prof (h1.below h)) (by rw [wt_prof]; exact hws.2.1) (hT.below h)
  rwa [List.length_map] at this
 have HE := Lib.hid fun (W : World) (h : Below w.heap.size w W) => begPe_any lo a2 c2 x.fPending W (h2.below h) hws.2.2.1 (hT.below h) (hm.below h)
 have HX := Lib.hid fun (W : World) (h : Below w.heap.size w W) => begNx_any lo a3 c3 x.fNexts W (h3.below h) hws.2.2.2 (hT.below h)
 have HG : Hid (stB x.fStore = true → ∀ W, Below w.heap.size w W → Calls Tryz.prog 61 #[.agg #[.slice a0 x.fStore.length c0, .slice a1 x.fProfiles.length c1, .slice a2 x.fPending.length c2, .slice a3 x.fNexts.length c3]] W fun e w' => e = .returned (.bool (gensB x.fStore x.fProfiles)) ∧ Below W.heap.size W w') := fun hst W h => hag_any a0 a1 c0 c1 x.fStore x.fProfiles _ _ W (h0.any.below h) (st_facts hst).1 (asc_of hst) (h1.any.below h) hws.2.1
 unfold woB
 generalize stB x.fStore = B0 at *
 generalize pf.psB (x.fProfiles.map prX) = B1 at *
 generalize begP x.fPending = B2 at *
 generalize begN x.fNexts = B3 at *
 generalize gensB x.fStore x.fProfiles = B4 at *
 generalize x.fStore.length = n0 at *
 generalize x.fProfiles.length = n1 at *
 generalize x.fPending.length = n2 at *
 generalize x.fNexts.length = n3 at *
 have HB0 : Hid (Below w.heap.size w (w.alloc (Obj.cells #[.slice a0 n0 c0, .slice a1 n1 c1, .slice a2 n2 c2, .slice a3 n3 c3] 39))) := (Below.refl _ _).alloc (Nat.le_refl _) _
 have HW0 : Hid (WoC (w.alloc (Obj.cells #[.slice a0 n0 c0, .slice a1 n1 c1, .slice a2 n2 c2, .slice a3 n3 c3] 39)) w.heap.size (.slice a0 n0 c0) (.slice a1 n1 c1) (.slice a2 n2 c2) (.slice a3 n3 c3)) := ⟨by simp [go_sem], by simp [go_sem], by simp [go_sem], by simp [go_sem]⟩
 clear h0 h1 h2 h3 hw hm hT hws
 cases B0 with
 | false =>
  go_enter Tryz.func27, Tryz.ntmps27
  go_wp2_with (go_at_call 57; refine (HS.out _ HB0.out).mono ?_; rintro e w1 ⟨rfl, hl1⟩)
  go_ret
  exact ⟨rfl, HB0.out.trans (hl1.mono HB0.out.size)⟩
 | true =>
  have HGG := HG.out rfl
  clear HG
  have HGH := Lib.hid HGG
  clear HGG
  cases B1 with
  | false =>
   go_enter Tryz.func27, Tryz.ntmps27
   go_wp2_with (first
    | (go_at_call 57; refine (HS.out _ HB0.out).mono ?_; rintro e w1 ⟨rfl, hl1⟩; obtain ⟨k0, k1, k2, k3⟩ := HW0.out.below hl1; have hb1 : Below w.heap.size w w1 := HB0.out.trans (hl1.mono HB0.out.size); clear hl1)
    | (go_at_call 58; refine (HP.out _ hb1).mono ?_; rintro e w2 ⟨rfl, hl2⟩))
   go_ret
   exact ⟨rfl, hb1.trans (hl2.mono hb1.size)⟩
  | true =>
   cases B2 with
   | false =>
    go_enter Tryz.func27, Tryz.ntmps27
    go_wp2_with (first
     | (go_at_call 57; refine (HS.out _ HB0.out).mono ?_; rintro e w1 ⟨rfl, hl1⟩; have hwc1 := HW0.out.below hl1; obtain ⟨k0, k1, k2, k3⟩ := hwc1; have hb1 : Below w.heap.size w w1 := HB0.out.trans (hl1.mono HB0.out.size); clear hl1)
     | (go_at_call 58; refine (HP.out _ hb1).mono ?_; rintro e w2 ⟨rfl, hl2⟩; have hwc2 := WoC.below ⟨k0, k1, k2, k3⟩ hl2; obtain ⟨m0, m1, m2, m3⟩ := hwc2; have hb2 : Below w.heap.size w w2 := hb1.trans (hl2.mono hb1.size); clear hl2 k0 k1 k2 k3)
     | (go_at_call 59; refine (HE.out _ hb2).mono ?_; rintro e w3 ⟨rfl, hl3⟩))
    go_ret
    exact ⟨rfl, hb2.trans (hl3.mono hb2.size)⟩
   | true =>
    cases B3 with
    | false =>
     go_enter Tryz.func27, Tryz.ntmps27
     go_wp2_with (first
      | (go_at_call 57; refine (HS.out _ HB0.out).mono ?_; rintro e w1 ⟨rfl, hl1⟩; have hwc1 := HW0.out.below hl1; obtain ⟨k0, k1, k2, k3⟩ := hwc1; have hb1 : Below w.heap.size w w1 := HB0.out.trans (hl1.mono HB0.out.size); clear hl1)
      | (go_at_call 58; refine (HP.out _ hb1).mono ?_; rintro e w2 ⟨rfl, hl2⟩; have hwc2 := WoC.below ⟨k0, k1, k2, k3⟩ hl2; obtain ⟨m0, m1, m2, m3⟩ := hwc2; have hb2 : Below w.heap.size w w2 := hb1.trans (hl2.mono hb1.size); clear hl2 k0 k1 k2 k3)
      | (go_at_call 59; refine (HE.out _ hb2).mono ?_; rintro e w3 ⟨rfl, hl3⟩; have hwc3 := WoC.below ⟨m0, m1, m2, m3⟩ hl3; obtain ⟨l0, l1, l2, l3⟩ := hwc3; have hb3 : Below w.heap.size w w3 := hb2.trans (hl3.mono hb2.size); clear hl3 m0 m1 m2 m3)
      | (go_at_call 60; refine (HX.out _ hb3).mono ?_; rintro e w4 ⟨rfl, hl4⟩))
     go_ret
     exact ⟨rfl, hb3.trans (hl4.mono hb3.size)⟩
    | true =>
     go_enter Tryz.func27, Tryz.ntmps27
     go_wp2_with (first
      | (go_at_call 57; refine (HS.out _ HB0.out).mono ?_; rintro e w1 ⟨rfl, hl1⟩; have hwc1 := HW0.out.below hl1; obtain ⟨k0, k1, k2, k3⟩ := hwc1; have hb1 : Below w.heap.size w w1 := HB0.out.trans (hl1.mono HB0.out.size); clear hl1)
      | (go_at_call 58; refine (HP.out _ hb1).mono ?_; rintro e w2 ⟨rfl, hl2⟩; have hwc2 := WoC.below ⟨k0, k1, k2, k3⟩ hl2; obtain ⟨m0, m1, m2, m3⟩ := hwc2; have hb2 : Below w.heap.size w w2 := hb1.trans (hl2.mono hb1.size); clear hl2 k0 k1 k2 k3)
      | (go_at_call 59; refine (HE.out _ hb2).mono ?_; rintro e w3 ⟨rfl, hl3⟩; have hwc3 := WoC.below ⟨m0, m1, m2, m3⟩ hl3; obtain ⟨l0, l1, l2, l3⟩ := hwc3; have hb3 : Below w.heap.size w w3 := hb2.trans (hl3.mono hb2.size); clear hl3 m0 m1 m2 m3)
      | (go_at_call 60; refine (HX.out _ hb3).mono ?_; rintro e w4 ⟨rfl, hl4⟩; have hwc4 := WoC.below ⟨l0, l1, l2, l3⟩ hl4; obtain ⟨j0, j1, j2, j3⟩ := hwc4; have hb4 : Below w.heap.size w w4 := hb3.trans (hl4.mono hb3.size); clear hl4 l0 l1 l2 l3)
      | (go_at_call 61; refine (HGH.out _ hb4).mono ?_; rintro e w5 ⟨rfl, hl5⟩))
     go_ret
     exact ⟨by first | rfl | simp, hb4.trans (hl5.mono hb4.size)⟩
end Go.Proofs.YthbgpfjbfkiljaaGreatDoor.so
