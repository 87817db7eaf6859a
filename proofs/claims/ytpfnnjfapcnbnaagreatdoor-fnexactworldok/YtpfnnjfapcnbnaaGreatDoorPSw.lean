import Derived.Test.YtpfnnjfapcnbnaaGreatDoorLqw
import Derived.Test.YtpfnnjfapcnbnaaGreatDoorPP1w
import Derived.Deep.CutRange
namespace Go.Proofs.YtpfnnjfapcnbnaaGreatDoor.pf
open Go.ChangeShapes Go.WideShapes Go.ChangeAt Go.RowKit Go.Deep Go.Maps
set_option linter.unusedVariables false
set_option linter.unusedSimpArgs false
set_option maxHeartbeats 2000000 in
set_option maxRecDepth 100000 in
theorem l13Gen_any (A : ByteArray) (z n : Int) (l : List Gn) (a : Option Addr) (cap : Nat) (w : World) (hR : SrcG w a l) (hn : l.length ≤ 1048576) :
  Calls Tryz.prog 78 #[.agg #[.string A, .int .i64 z, .slice a l.length cap], .int .i64 n] w fun e w' => e = .returned (.int .i64 (gIx l n)) ∧ Below w.heap.size w w' := by
 have HR : Hid (SrcG w a l) := hR
 obtain ⟨m, hmm⟩ : ∃ n, l.length = n := ⟨_, rfl⟩
 have HNN : Hid (l.length = m) := hmm
 rw [hmm] at hn ⊢
 clear hmm hR
 obtain ⟨W1, hW1⟩ : ∃ W1, W1 = w.alloc (.cells #[.string A, .int .i64 z, .slice a m cap] 71) := ⟨_, rfl⟩
 have HW1 : Hid (W1 = w.alloc (.cells #[.string A, .int .i64 z, .slice a m cap] 71)) := hW1
 have HB1 : Hid (Below w.heap.size w W1) := by show Below _ _ _; rw [hW1]; exact (Below.refl _ _).alloc (Nat.le_refl _) _
 have HCB : Hid (∀ W, Below W1.heap.size W1 W → W.cell? ⟨w.heap.size, 2, none⟩ = some (.slice a m cap)) := fun W hb => by
  have k := (bcell hb).1 w.heap.size
  rw [k 2 (by rw [hW1]; simp), hW1]
  simp [go_sem]
 clear hW1
 go_enter Tryz.func78, Tryz.ntmps78
 go_wp2
 go_loopw [5] (fun y wr => ∃ i : Nat, i ≤ m ∧ y = .int .i64 (i : Int) ∧ (∀ (j : Nat) (y : Gn), j < i → l[j]? = some y → y.n ≠ n) ∧ Below W1.heap.size W1 wr) (fun y _ => m - (intOf y).toNat)
 case atStart => exact ⟨0, Nat.zero_le _, rfl, fun j y h => by omega, by rw [← HW1.out]; exact Below.refl _ _⟩
 case round =>
  obtain ⟨i, hi, rfl, h1, hbel⟩ := hrel
  have H1 : Hid (∀ (j : Nat) (y : Gn), j < i → l[j]? = some y → y.n ≠ n) := h1
  have HBE : Hid (Below W1.heap.size W1 wr) := hbel
  have HBW : Hid (Below w.heap.size w wr) := HB1.out.trans (hbel.mono HB1.out.size)
  have c2 := HCB.out _ hbel
  clear h1 hbel
  by_cases hin : i < m
  ·have hin' : (i : Int) < (m : Int) := by omega
   have hi0 : (0 : Int) ≤ (i : Int) := by omega
   obtain ⟨x, hx⟩ : ∃ x, l[i]? = some x := ⟨_, List.getElem?_eq_getElem (by rw [HNN.out]; exact hin)⟩
   rcases HR.out with h | ⟨b, o, rfl, hc⟩
   ·have := HNN.out; rw [h] at this; simp at this; omega
   obtain ⟨c0, c1⟩ := (hc i x hx).below HBW.out
   have HX : Hid (l[i]? = some x) := hx
   obtain ⟨q, hq⟩ : ∃ m, x.n = m := ⟨_, rfl⟩
   rw [hq] at c0
   have HM : Hid (x.n = q) := hq
   clear hq hc hx c1
   by_cases hu : q = n
   ·have HF : Hid (gIx l n = (i : Int)) := gIx_yes HX.out (HM.out.trans hu) H1.out
    subst hu
    go_wp2
    go_ret
    exact ⟨by rw [HF.out]; first | done | rfl, HBW.out⟩
   ·have hu' : (q == n) = false := by simpa using hu
    have HN : Hid (∀ (j : Nat) (y : Gn), j < i + 1 → l[j]? = some y → y.n ≠ n) := fun j y hj hy => by
     rcases Nat.lt_or_ge j i with h | h
     ·exact H1.out j y h hy
     ·obtain rfl : j = i := by omega
      rw [HX.out] at hy
      cases hy
      rw [HM.out]; exact hu
    go_wp2
    go_roundw
    case rel => exact ⟨i + 1, by omega, by go_num, HN.out, HBE.out⟩
    case measure => simp [intOf] <;> omega
  ·have hin' : ¬ (i : Int) < (m : Int) := by omega
   have HF : Hid (gIx l n = -1) := gIx_no fun j y hy => H1.out j y (by have := (List.getElem?_eq_some_iff.1 hy).1; have := HNN.out; omega) hy
   go_wp2
   go_ret
   exact ⟨by rw [HF.out]; first | done | rfl, HBW.out⟩
set_option maxHeartbeats 16000000 in
set_option maxRecDepth 100000 in
theorem sps_any (ps : List Pr) (a : Option Addr) (cap : Nat) (w : World) (hR : SrcP w a ps) (hw : wtP ps ≤ 1048576) :
  Calls Tryz.prog 32 #[.slice a ps.length cap] w fun e w' => e = .returned (.bool (psB ps)) ∧ Below w.heap.size w w' := by
 have hn : ps.length ≤ 1048576 := by have := wt_len ps; omega
 have HRP : Hid (SrcP w a ps) := hR
 have HWT : Hid (wtP ps ≤ 1048576) := hw
 clear hR hw
 obtain ⟨n, hnn⟩ : ∃ n, ps.length = n := ⟨_, rfl⟩
 have HNN : Hid (ps.length = n) := hnn
 rw [hnn] at hn ⊢
 clear hnn
 by_cases h2 : 20 < n
 ·have h2' : (20 : Int) < (n : Int) := by omega
  have HF : Hid (psB ps = false) := psB_no fun h => by have := h.few; rw [HNN.out] at this; omega
  go_enter Tryz.func32, Tryz.ntmps32
  go_wp2
  go_ret
  exact ⟨by rw [HF.out]; first | done | rfl, Below.refl _ _⟩
 have h2' : ¬ (20 : Int) < (n : Int) := by omega
 go_enter Tryz.func32, Tryz.ntmps32
 go_wp2
 go_loopw [3, 4, 5, 6] (fun y _ _ _ wr => ∃ i : Nat, i ≤ n ∧ y = .int .i64 (i : Int) ∧ (∀ (j : Nat) (y : Pr), j < i → ps[j]? = some y → POk y) ∧ AdjP (ps.take i) ∧ Below w.heap.size w wr) (fun y _ _ _ _ => n - (intOf y).toNat)
 case atStart => exact ⟨0, Nat.zero_le _, rfl, fun j y h => by omega, fun j x y h => by simp at h, Below.refl _ _⟩
 case round =>
  obtain ⟨i, hi, rfl, hea, hadj, hbel⟩ := hrel
  have HEA : Hid (∀ (j : Nat) (y : Pr), j < i → ps[j]? = some y → POk y) := hea
  have HAP : Hid (AdjP (ps.take i)) := hadj
  have HBE : Hid (Below w.heap.size w wr) := hbel
  clear hea hadj
  by_cases hil : i < n
  ·have hil' : (i : Int) < (n : Int) := by omega
   have hi0 : (0 : Int) ≤ (i : Int) := by omega
   obtain ⟨x, hx⟩ : ∃ x, ps[i]? = some x := ⟨_, List.getElem?_eq_getElem (by rw [HNN.out]; exact hil)⟩
   rcases HRP.out with h | ⟨b, o, rfl, hc⟩
   ·have := HNN.out; rw [h] at this; simp at this; omega
   obtain ⟨u, c, q0, q1, q2, hsg⟩ := (hc i x hx).below hbel
   have HX : Hid (ps[i]? = some x) := hx
   have hmem := List.mem_of_getElem? hx
   have hgl : x.gens.length ≤ 1048576 := by have := wt_gens hmem; have := HWT.out; omega
   have hnl : x.name.size ≤ 1048576 := by have := wt_name hmem; have := HWT.out; omega
   have HPF : Hid (¬ POk x → psB ps = false) := fun h => psB_no fun h2 => h (h2.each i x HX.out)
   have HLG0 : Hid (∀ W, Below wr.heap.size wr W → Calls Tryz.prog 78 #[.agg #[.string x.name, .int .i64 x.now, .slice u x.gens.length c], .int .i64 x.now] W fun e w' => e = .returned (.int .i64 (gIx x.gens x.now)) ∧ Below W.heap.size W w') := fun W hb => l13Gen_any x.name x.now x.now x.gens u c W (hsg.below hb) hgl
   have HNA : Hid (∀ W, Calls Tryz.prog 34 #[.string x.name] W fun e w' => e = .returned (.bool (nm.nameB x.name)) ∧ w' = W) := fun W => nm.spec_any x.name hnl W
   have HSG : Hid (∀ W, Below wr.heap.size wr W → SrcG W u x.gens) := fun W hb => hsg.below hb
   obtain ⟨A, hA⟩ : ∃ t, x.name = t := ⟨_, rfl⟩
   obtain ⟨z, hz⟩ : ∃ t, x.now = t := ⟨_, rfl⟩
   obtain ⟨m, hm⟩ : ∃ t, x.gens.length = t := ⟨_, rfl⟩
   obtain ⟨r, hr⟩ : ∃ t, gIx x.gens z = t := ⟨_, rfl⟩
   have HE : Hid (x.name = A ∧ x.now = z ∧ x.gens.length = m) := ⟨hA, hz, hm⟩
   have HR : Hid (gIx x.gens z = r) := hr
   rw [hA] at q0 HNA
   rw [hz] at q1
   rw [hm] at q2 hgl
   rw [hA, hz, hm, hr] at HLG0
   obtain ⟨W1, hW1⟩ : ∃ W1, W1 = wr.alloc (.cells #[.string A, .int .i64 z, .slice u m c] 71) := ⟨_, rfl⟩
   have HS1 : Hid (wr.heap.size < W1.heap.size) := by show _ < _; rw [hW1]; simp
   have HBR : Hid (Below wr.heap.size wr W1) := by show Below _ _ _; rw [hW1]; exact (Below.refl _ _).alloc (Nat.le_refl _) _
   have HB1 : Hid (Below w.heap.size w W1) := HBE.out.trans (HBR.out.mono HBE.out.size)
   have HD1 : Hid (Below W1.heap.size W1 (wr.alloc (.cells #[.string A, .int .i64 z, .slice u m c] 71)).drew) := by show Below _ _ _; rw [← hW1]; exact (Below.refl _ _).drew
   have HCB : Hid (∀ w' : World, Below W1.heap.size W1 w' → w'.cell? ⟨wr.heap.size, 0, none⟩ = some (.string A) ∧ w'.cell? ⟨wr.heap.size, 1, none⟩ = some (.int .i64 z) ∧ w'.cell? ⟨wr.heap.size, 2, none⟩ = some (.slice u m c)) := fun w' hb => by
    have k := (bcell hb).1 wr.heap.size
    rw [k 0 (by rw [hW1]; simp), k 1 (by rw [hW1]; simp), k 2 (by rw [hW1]; simp), hW1]
    exact ⟨by simp [go_sem], by simp [go_sem], by simp [go_sem]⟩
   have HLG : Hid (∀ W, Below wr.heap.size wr W → Calls Tryz.prog 78 #[.agg #[.string A, .int .i64 z, .slice u m c], .int .i64 z] W fun e w' => e = .returned (.int .i64 r) ∧ Below W.heap.size W w') := HLG0.out
   have HCI : Hid (∀ (j : Nat) (y : Pr), ps[j]? = some y → ∀ w', Below w.heap.size w w' → w'.cell? ⟨b, o + j * 3, none⟩ = some (.string y.name)) := fun j y hy w' hb => by
    obtain ⟨_, _, h, _⟩ := (hc j y hy).below hb
    exact h
   have HD1R : Hid (Below wr.heap.size wr (wr.alloc (.cells #[.string A, .int .i64 z, .slice u m c] 71)).drew) := ((Below.refl _ _).alloc (Nat.le_refl _) _).drew
   clear hA hz hm hr hx hc hsg hmem hnl hbel hW1 HLG0
   go_upto_region 7 with fail
   go_cut [56] from 20 to 56 (fun v wx => ∃ bd : Bool, v = .bool bd ∧ (bd = true → psB ps = false) ∧ (bd = false → nm.nameB A = true ∧ m ≤ 50 ∧ AdjP (ps.take (i + 1)) ∧ (z = 0 ∨ 0 ≤ r)) ∧ Below W1.heap.size W1 wx)
   case first =>
    cases hnm : nm.nameB A with
    | false =>
     rw [hnm] at HNA
     have HF : Hid (psB ps = false) := HPF.out fun h => by have := h.name; rw [HE.out.1, hnm] at this; cases this
     clear hnm
     try go_wp2_with fail
     refine wp_region_held_drew (S := fun w' => (w'.cell? ⟨wr.heap.size, 0, none⟩ = some (.string A) ∧ w'.cell? ⟨wr.heap.size, 1, none⟩ = some (.int .i64 z) ∧ w'.cell? ⟨wr.heap.size, 2, none⟩ = some (.slice u m c))) (by kernel_rfl) (HCB.out _ (HD1.out)) (fun hHeld => ?_)
     refine tq (i := 0) rfl (v := ?v1) ?hy1 ?r1
     case hy1 => (intro w hSw; (try dsimp only at hSw); go_simp; try with_reducible rfl)
     try simp only [aP]
     refine tq (i := 1) rfl (v := ?v2) ?hy2 ?r2
     case hy2 => (intro w hSw; (try dsimp only at hSw); go_simp; try with_reducible rfl)
     try simp only [aP]
     refine wpAnyH_ready (rs := [2]) (by kernel_rfl) (by simp) ?_
     refine cq rfl (fun K hK => ?_) AllReadyH.nil
     go_simp
     (go_at_call 34; refine (HNA.out _).mono ?_; rintro e w2 ⟨rfl, rfl⟩)
     try go_wp2_with fail
     refine hK.out _ _ (HCB.out _ (HD1.out)) (fun hHeld => ?_)
     clear hK K
     try simp only [aP]
     refine tq (i := 3) rfl (v := ?v3) ?hy3 ?r3
     case hy3 => (intro w hSw; (try dsimp only at hSw); go_simp; try with_reducible rfl)
     try simp only [aP]
     refine tq (i := 4) rfl (v := ?v4) ?hy4 ?r4
     case hy4 => (intro w hSw; (try dsimp only at hSw); go_simp; try with_reducible rfl)
     try simp only [aP]
     refine sq (i := 5) rfl ?_
     try simp only [aP]
     refine sq (i := 6) rfl ?_
     try simp only [aP]
     refine sq (i := 7) rfl ?_
     try simp only [aP]
     refine sq (i := 8) rfl ?_
     try simp only [aP]
     refine sq (i := 9) rfl ?_
     try simp only [aP]
     refine sq (i := 10) rfl ?_
     try simp only [aP]
     refine sq (i := 11) rfl ?_
     try simp only [aP]
     refine sq (i := 12) rfl ?_
     try simp only [aP]
     refine sq (i := 13) rfl ?_
     try simp only [aP]
     refine sq (i := 14) rfl ?_
     try simp only [aP]
     refine sq (i := 15) rfl ?_
     try simp only [aP]
     refine sq (i := 16) rfl ?_
     try simp only [aP]
     refine sq (i := 17) rfl ?_
     try simp only [aP]
     refine tq (i := 18) rfl (v := ?v5) ?hy5 ?r5
     case hy5 => (intro w hSw; (try dsimp only at hSw); go_simp; try with_reducible rfl)
     try simp only [aP]
     refine tq (i := 19) rfl (v := ?v6) ?hy6 ?r6
     case hy6 => (intro w hSw; (try dsimp only at hSw); go_simp; try with_reducible rfl)
     try simp only [aP]
     refine sq (i := 20) rfl ?_
     try simp only [aP]
     refine sq (i := 21) rfl ?_
     try simp only [aP]
     refine sq (i := 22) rfl ?_
     try simp only [aP]
     refine sq (i := 23) rfl ?_
     try simp only [aP]
     refine tq (i := 24) rfl (v := ?v7) ?hy7 ?r7
     case hy7 => (intro w hSw; (try dsimp only at hSw); go_simp; try with_reducible rfl)
     try simp only [aP]
     refine tq (i := 25) rfl (v := ?v8) ?hy8 ?r8
     case hy8 => (intro w hSw; (try dsimp only at hSw); go_simp; try with_reducible rfl)
     try simp only [aP]
     refine sq (i := 26) rfl ?_
     try simp only [aP]
     refine sq (i := 27) rfl ?_
     try simp only [aP]
     refine sq (i := 28) rfl ?_
     try simp only [aP]
     refine sq (i := 29) rfl ?_
     try simp only [aP]
     refine sq (i := 30) rfl ?_
     try simp only [aP]
     refine sq (i := 31) rfl ?_
     try simp only [aP]
     refine sq (i := 32) rfl ?_
     try simp only [aP]
     refine sq (i := 33) rfl ?_
     try simp only [aP]
     refine sq (i := 34) rfl ?_
     try simp only [aP]
     refine sq (i := 35) rfl ?_
     try simp only [aP]
     refine tq (i := 36) rfl (v := ?v9) ?hy9 ?r9
     case hy9 => (intro w hSw; (try dsimp only at hSw); go_simp; try with_reducible rfl)
     try simp only [aP]
     refine wpAnyH_done (by kernel_rfl) ?_ _
     go_wp2_with fail
     go_meet
     case rel => exact ⟨true, by first | rfl | simp [*], fun _ => HF.out, (fun h => by cases h), HD1.out⟩
    | true =>
     rw [hnm] at HNA
     have HNM : Hid (nm.nameB A = true) := hnm
     clear hnm
     by_cases hi1 : 0 < i
     ·have hi1' : (0 : Int) < (i : Int) := by omega
      obtain ⟨K, hKk⟩ : ∃ K, i = K + 1 := ⟨i - 1, by omega⟩
      have HKk : Hid (i = K + 1) := hKk
      have hK1 : (i : Int) - 1 = (K : Int) := by omega
      have hK2 : (K : Int) < (n : Int) := by omega
      have hK0 : (0 : Int) ≤ (K : Int) := by omega
      have hK3 : IntKind.i64.wrap ((i : Int) - 1) = (K : Int) := by rw [IntKind.wrap_i64]; omega
      have hK4 : IntKind.i64.wrap (K : Int) = (K : Int) := by rw [IntKind.wrap_i64]; omega
      obtain ⟨y, hy⟩ : ∃ x, ps[K]? = some x := ⟨_, List.getElem?_eq_getElem (by rw [HNN.out]; omega)⟩
      have HY : Hid (ps[K]? = some y) := hy
      obtain ⟨M, hM⟩ : ∃ t, y.name = t := ⟨_, rfl⟩
      have HM : Hid (y.name = M) := hM
      have HCK : Hid (∀ w' : World, Below W1.heap.size W1 w' → w'.cell? ⟨b, o + K * 3, none⟩ = some (.string M)) := fun w' hb => by
       have := HCI.out K y hy w' (HB1.out.trans (hb.mono HB1.out.size))
       rwa [hM] at this
      clear hKk hy hM
      have HBL : Hid (Op.bytesLess M.toList A.toList = decide (M.data.toList < A.data.toList)) := bl M A
      cases hbl : Op.bytesLess M.toList A.toList with
      | false =>
       have HF : Hid (psB ps = false) := psB_no fun h => by
        have h2 := h.asc K y x HY.out (HKk.out ▸ HX.out)
        rw [HM.out, HE.out.1] at h2
        have := HBL.out
        rw [hbl] at this
        exact absurd h2 (by simpa using this.symm)
       clear HBL
       try go_wp2_with fail
       refine wp_region_held_drew (S := fun w' => (w'.cell? ⟨wr.heap.size, 0, none⟩ = some (.string A) ∧ w'.cell? ⟨wr.heap.size, 1, none⟩ = some (.int .i64 z) ∧ w'.cell? ⟨wr.heap.size, 2, none⟩ = some (.slice u m c)) ∧ w'.cell? ⟨b, o + K * 3, none⟩ = some (.string M)) (by kernel_rfl) (⟨HCB.out _ (HD1.out), HCK.out _ (HD1.out)⟩) (fun hHeld => ?_)
       refine tq (i := 0) rfl (v := ?v10) ?hy10 ?r10
       case hy10 => (intro w hSw; (try dsimp only at hSw); go_simp; try with_reducible rfl)
       try simp only [aP]
       refine tq (i := 1) rfl (v := ?v11) ?hy11 ?r11
       case hy11 => (intro w hSw; (try dsimp only at hSw); go_simp; try with_reducible rfl)
       try simp only [aP]
       refine wpAnyH_ready (rs := [2]) (by kernel_rfl) (by simp) ?_
       refine cq rfl (fun K hK => ?_) AllReadyH.nil
       go_simp
       (go_at_call 34; refine (HNA.out _).mono ?_; rintro e w2 ⟨rfl, rfl⟩)
       try go_wp2_with fail
       refine hK.out _ _ (⟨HCB.out _ (HD1.out), HCK.out _ (HD1.out)⟩) (fun hHeld => ?_)
       clear hK K
       try simp only [aP]
       refine tq (i := 3) rfl (v := ?v12) ?hy12 ?r12
       case hy12 => (intro w hSw; (try dsimp only at hSw); go_simp; try with_reducible rfl)
       try simp only [aP]
       refine tq (i := 4) rfl (v := ?v13) ?hy13 ?r13
       case hy13 => (intro w hSw; (try dsimp only at hSw); go_simp; try with_reducible rfl)
       try simp only [aP]
       refine tq (i := 5) rfl (v := ?v14) ?hy14 ?r14
       case hy14 => (intro w hSw; (try dsimp only at hSw); go_simp; try with_reducible rfl)
       try simp only [aP]
       refine tq (i := 6) rfl (v := ?v15) ?hy15 ?r15
       case hy15 => (intro w hSw; (try dsimp only at hSw); go_simp; try with_reducible rfl)
       try simp only [aP]
       refine tq (i := 7) rfl (v := ?v16) ?hy16 ?r16
       case hy16 => (intro w hSw; (try dsimp only at hSw); go_simp; try with_reducible rfl)
       try simp only [aP]
       refine tq (i := 8) rfl (v := ?v17) ?hy17 ?r17
       case hy17 => (intro w hSw; (try dsimp only at hSw); go_simp; try with_reducible rfl)
       try simp only [aP]
       refine tq (i := 9) rfl (v := ?v18) ?hy18 ?r18
       case hy18 => (intro w hSw; (try dsimp only at hSw); go_simp; try with_reducible rfl)
       try simp only [aP]
       refine tq (i := 10) rfl (v := ?v19) ?hy19 ?r19
       case hy19 => (intro w hSw; (try dsimp only at hSw); go_simp; try with_reducible rfl)
       try simp only [aP]
       refine tq (i := 11) rfl (v := ?v20) ?hy20 ?r20
       case hy20 => (intro w hSw; (try dsimp only at hSw); go_simp; try with_reducible rfl)
       try simp only [aP]
       refine tq (i := 12) rfl (v := ?v21) ?hy21 ?r21
       case hy21 => (intro w hSw; (try dsimp only at hSw); go_simp; try with_reducible rfl)
       try simp only [aP]
       refine tq (i := 13) rfl (v := ?v22) ?hy22 ?r22
       case hy22 => (intro w hSw; (try dsimp only at hSw); go_simp; try with_reducible rfl)
       try simp only [aP]
       refine tq (i := 14) rfl (v := ?v23) ?hy23 ?r23
       case hy23 => (intro w hSw; (try dsimp only at hSw); go_simp; try with_reducible rfl)
       try simp only [aP]
       refine tq (i := 15) rfl (v := ?v24) ?hy24 ?r24
       case hy24 => (intro w hSw; (try dsimp only at hSw); go_simp; try with_reducible rfl)
       try simp only [aP]
       refine tq (i := 16) rfl (v := ?v25) ?hy25 ?r25
       case hy25 => (intro w hSw; (try dsimp only at hSw); go_simp; try with_reducible rfl)
       try simp only [aP]
       refine tq (i := 17) rfl (v := ?v26) ?hy26 ?r26
       case hy26 => (intro w hSw; (try dsimp only at hSw); go_simp; try with_reducible rfl)
       try simp only [aP]
       refine tq (i := 18) rfl (v := ?v27) ?hy27 ?r27
       case hy27 => (intro w hSw; (try dsimp only at hSw); go_simp; try with_reducible rfl)
       try simp only [aP]
       refine tq (i := 19) rfl (v := ?v28) ?hy28 ?r28
       case hy28 => (intro w hSw; (try dsimp only at hSw); go_simp; try with_reducible rfl)
       try simp only [aP]
       refine sq (i := 20) rfl ?_
       try simp only [aP]
       refine sq (i := 21) rfl ?_
       try simp only [aP]
       refine sq (i := 22) rfl ?_
       try simp only [aP]
       refine sq (i := 23) rfl ?_
       try simp only [aP]
       refine tq (i := 24) rfl (v := ?v29) ?hy29 ?r29
       case hy29 => (intro w hSw; (try dsimp only at hSw); go_simp; try with_reducible rfl)
       try simp only [aP]
       refine tq (i := 25) rfl (v := ?v30) ?hy30 ?r30
       case hy30 => (intro w hSw; (try dsimp only at hSw); go_simp; try with_reducible rfl)
       try simp only [aP]
       refine sq (i := 26) rfl ?_
       try simp only [aP]
       refine sq (i := 27) rfl ?_
       try simp only [aP]
       refine sq (i := 28) rfl ?_
       try simp only [aP]
       refine sq (i := 29) rfl ?_
       try simp only [aP]
       refine sq (i := 30) rfl ?_
       try simp only [aP]
       refine sq (i := 31) rfl ?_
       try simp only [aP]
       refine sq (i := 32) rfl ?_
       try simp only [aP]
       refine sq (i := 33) rfl ?_
       try simp only [aP]
       refine sq (i := 34) rfl ?_
       try simp only [aP]
       refine sq (i := 35) rfl ?_
       try simp only [aP]
       refine tq (i := 36) rfl (v := ?v31) ?hy31 ?r31
       case hy31 => (intro w hSw; (try dsimp only at hSw); go_simp; try with_reducible rfl)
       try simp only [aP]
       refine wpAnyH_done (by kernel_rfl) ?_ _
       go_wp2_with fail
       go_meet
       case rel => exact ⟨true, by first | rfl | simp [*], fun _ => HF.out, (fun h => by cases h), HD1.out⟩
      | true =>
       have HAN : Hid (AdjP (ps.take (i + 1))) := adjP_next HAP.out HKk.out HY.out (HKk.out ▸ HX.out) (by
        have := HBL.out
        rw [hbl] at this
        rw [HM.out, HE.out.1]
        simpa using this.symm)
       clear HBL
       by_cases hm5 : 50 < m
       ·have hm5' : decide ((50 : Int) < (m : Int)) = true := decide_eq_true (by omega)
        try go_wp2_with fail
        refine wp_region_held_drew (S := fun w' => (w'.cell? ⟨wr.heap.size, 0, none⟩ = some (.string A) ∧ w'.cell? ⟨wr.heap.size, 1, none⟩ = some (.int .i64 z) ∧ w'.cell? ⟨wr.heap.size, 2, none⟩ = some (.slice u m c)) ∧ w'.cell? ⟨b, o + K * 3, none⟩ = some (.string M)) (by kernel_rfl) (⟨HCB.out _ (HD1.out), HCK.out _ (HD1.out)⟩) (fun hHeld => ?_)
        refine tq (i := 0) rfl (v := ?v32) ?hy32 ?r32
        case hy32 => (intro w hSw; (try dsimp only at hSw); go_simp; try with_reducible rfl)
        try simp only [aP]
        refine tq (i := 1) rfl (v := ?v33) ?hy33 ?r33
        case hy33 => (intro w hSw; (try dsimp only at hSw); go_simp; try with_reducible rfl)
        try simp only [aP]
        refine wpAnyH_ready (rs := [2]) (by kernel_rfl) (by simp) ?_
        refine cq rfl (fun K hK => ?_) AllReadyH.nil
        go_simp
        (go_at_call 34; refine (HNA.out _).mono ?_; rintro e w2 ⟨rfl, rfl⟩)
        try go_wp2_with fail
        refine hK.out _ _ (⟨HCB.out _ (HD1.out), HCK.out _ (HD1.out)⟩) (fun hHeld => ?_)
        clear hK K
        try simp only [aP]
        refine tq (i := 3) rfl (v := ?v34) ?hy34 ?r34
        case hy34 => (intro w hSw; (try dsimp only at hSw); go_simp; try with_reducible rfl)
        try simp only [aP]
        refine tq (i := 4) rfl (v := ?v35) ?hy35 ?r35
        case hy35 => (intro w hSw; (try dsimp only at hSw); go_simp; try with_reducible rfl)
        try simp only [aP]
        refine tq (i := 5) rfl (v := ?v36) ?hy36 ?r36
        case hy36 => (intro w hSw; (try dsimp only at hSw); go_simp; try with_reducible rfl)
        try simp only [aP]
        refine tq (i := 6) rfl (v := ?v37) ?hy37 ?r37
        case hy37 => (intro w hSw; (try dsimp only at hSw); go_simp; try with_reducible rfl)
        try simp only [aP]
        refine tq (i := 7) rfl (v := ?v38) ?hy38 ?r38
        case hy38 => (intro w hSw; (try dsimp only at hSw); go_simp; try with_reducible rfl)
        try simp only [aP]
        refine tq (i := 8) rfl (v := ?v39) ?hy39 ?r39
        case hy39 => (intro w hSw; (try dsimp only at hSw); go_simp; try with_reducible rfl)
        try simp only [aP]
        refine tq (i := 9) rfl (v := ?v40) ?hy40 ?r40
        case hy40 => (intro w hSw; (try dsimp only at hSw); go_simp; try with_reducible rfl)
        try simp only [aP]
        refine tq (i := 10) rfl (v := ?v41) ?hy41 ?r41
        case hy41 => (intro w hSw; (try dsimp only at hSw); go_simp; try with_reducible rfl)
        try simp only [aP]
        refine tq (i := 11) rfl (v := ?v42) ?hy42 ?r42
        case hy42 => (intro w hSw; (try dsimp only at hSw); go_simp; try with_reducible rfl)
        try simp only [aP]
        refine tq (i := 12) rfl (v := ?v43) ?hy43 ?r43
        case hy43 => (intro w hSw; (try dsimp only at hSw); go_simp; try with_reducible rfl)
        try simp only [aP]
        refine tq (i := 13) rfl (v := ?v44) ?hy44 ?r44
        case hy44 => (intro w hSw; (try dsimp only at hSw); go_simp; try with_reducible rfl)
        try simp only [aP]
        refine tq (i := 14) rfl (v := ?v45) ?hy45 ?r45
        case hy45 => (intro w hSw; (try dsimp only at hSw); go_simp; try with_reducible rfl)
        try simp only [aP]
        refine tq (i := 15) rfl (v := ?v46) ?hy46 ?r46
        case hy46 => (intro w hSw; (try dsimp only at hSw); go_simp; try with_reducible rfl)
        try simp only [aP]
        refine tq (i := 16) rfl (v := ?v47) ?hy47 ?r47
        case hy47 => (intro w hSw; (try dsimp only at hSw); go_simp; try with_reducible rfl)
        try simp only [aP]
        refine tq (i := 17) rfl (v := ?v48) ?hy48 ?r48
        case hy48 => (intro w hSw; (try dsimp only at hSw); go_simp; try with_reducible rfl)
        try simp only [aP]
        refine tq (i := 18) rfl (v := ?v49) ?hy49 ?r49
        case hy49 => (intro w hSw; (try dsimp only at hSw); go_simp; try with_reducible rfl)
        try simp only [aP]
        refine tq (i := 19) rfl (v := ?v50) ?hy50 ?r50
        case hy50 => (intro w hSw; (try dsimp only at hSw); go_simp; try with_reducible rfl)
        try simp only [aP]
        refine tq (i := 20) rfl (v := ?v51) ?hy51 ?r51
        case hy51 => (intro w hSw; (try dsimp only at hSw); go_simp; try with_reducible rfl)
        try simp only [aP]
        refine tq (i := 21) rfl (v := ?v52) ?hy52 ?r52
        case hy52 => (intro w hSw; (try dsimp only at hSw); go_simp; try with_reducible rfl)
        try simp only [aP]
        refine tq (i := 22) rfl (v := ?v53) ?hy53 ?r53
        case hy53 => (intro w hSw; (try dsimp only at hSw); go_simp; try with_reducible rfl)
        try simp only [aP]
        refine tq (i := 23) rfl (v := ?v54) ?hy54 ?r54
        case hy54 => (intro w hSw; (try dsimp only at hSw); go_simp; try with_reducible rfl)
        try simp only [aP]
        refine tq (i := 24) rfl (v := ?v55) ?hy55 ?r55
        case hy55 => (intro w hSw; (try dsimp only at hSw); go_simp; try with_reducible rfl)
        try simp only [aP]
        refine tq (i := 25) rfl (v := ?v56) ?hy56 ?r56
        case hy56 => (intro w hSw; (try dsimp only at hSw); go_simp; try with_reducible rfl)
        try simp only [aP]
        refine sq (i := 26) rfl ?_
        try simp only [aP]
        refine sq (i := 27) rfl ?_
        try simp only [aP]
        refine sq (i := 28) rfl ?_
        try simp only [aP]
        refine sq (i := 29) rfl ?_
        try simp only [aP]
        refine sq (i := 30) rfl ?_
        try simp only [aP]
        refine sq (i := 31) rfl ?_
        try simp only [aP]
        refine sq (i := 32) rfl ?_
        try simp only [aP]
        refine sq (i := 33) rfl ?_
        try simp only [aP]
        refine sq (i := 34) rfl ?_
        try simp only [aP]
        refine sq (i := 35) rfl ?_
        try simp only [aP]
        refine tq (i := 36) rfl (v := ?v57) ?hy57 ?r57
        case hy57 => (intro w hSw; (try dsimp only at hSw); go_simp; try with_reducible rfl)
        try simp only [aP]
        refine wpAnyH_done (by kernel_rfl) ?_ _
        go_wp2_with fail
        go_meet
        case rel => exact ⟨true, by first | rfl | simp [*], fun _ => HPF.out (fun h => by have := h.few; rw [HE.out.2.2] at this; omega), (fun h => by cases h), HD1.out⟩
       have hm5' : decide ((50 : Int) < (m : Int)) = false := decide_eq_false (by omega)
       by_cases hz0 : z = 0
       ·have hz0' : (z != 0) = false := by simpa using hz0
        have HZ0 : Hid (z = 0) := hz0
        clear hz0
        try go_wp2_with fail
        refine wp_region_held_drew (S := fun w' => (w'.cell? ⟨wr.heap.size, 0, none⟩ = some (.string A) ∧ w'.cell? ⟨wr.heap.size, 1, none⟩ = some (.int .i64 z) ∧ w'.cell? ⟨wr.heap.size, 2, none⟩ = some (.slice u m c)) ∧ w'.cell? ⟨b, o + K * 3, none⟩ = some (.string M)) (by kernel_rfl) (⟨HCB.out _ (HD1.out), HCK.out _ (HD1.out)⟩) (fun hHeld => ?_)
        refine tq (i := 0) rfl (v := ?v58) ?hy58 ?r58
        case hy58 => (intro w hSw; (try dsimp only at hSw); go_simp; try with_reducible rfl)
        try simp only [aP]
        refine tq (i := 1) rfl (v := ?v59) ?hy59 ?r59
        case hy59 => (intro w hSw; (try dsimp only at hSw); go_simp; try with_reducible rfl)
        try simp only [aP]
        refine wpAnyH_ready (rs := [2]) (by kernel_rfl) (by simp) ?_
        refine cq rfl (fun K hK => ?_) AllReadyH.nil
        go_simp
        (go_at_call 34; refine (HNA.out _).mono ?_; rintro e w2 ⟨rfl, rfl⟩)
        try go_wp2_with fail
        refine hK.out _ _ (⟨HCB.out _ (HD1.out), HCK.out _ (HD1.out)⟩) (fun hHeld => ?_)
        clear hK K
        try simp only [aP]
        refine tq (i := 3) rfl (v := ?v60) ?hy60 ?r60
        case hy60 => (intro w hSw; (try dsimp only at hSw); go_simp; try with_reducible rfl)
        try simp only [aP]
        refine tq (i := 4) rfl (v := ?v61) ?hy61 ?r61
        case hy61 => (intro w hSw; (try dsimp only at hSw); go_simp; try with_reducible rfl)
        try simp only [aP]
        refine tq (i := 5) rfl (v := ?v62) ?hy62 ?r62
        case hy62 => (intro w hSw; (try dsimp only at hSw); go_simp; try with_reducible rfl)
        try simp only [aP]
        refine tq (i := 6) rfl (v := ?v63) ?hy63 ?r63
        case hy63 => (intro w hSw; (try dsimp only at hSw); go_simp; try with_reducible rfl)
        try simp only [aP]
        refine tq (i := 7) rfl (v := ?v64) ?hy64 ?r64
        case hy64 => (intro w hSw; (try dsimp only at hSw); go_simp; try with_reducible rfl)
        try simp only [aP]
        refine tq (i := 8) rfl (v := ?v65) ?hy65 ?r65
        case hy65 => (intro w hSw; (try dsimp only at hSw); go_simp; try with_reducible rfl)
        try simp only [aP]
        refine tq (i := 9) rfl (v := ?v66) ?hy66 ?r66
        case hy66 => (intro w hSw; (try dsimp only at hSw); go_simp; try with_reducible rfl)
        try simp only [aP]
        refine tq (i := 10) rfl (v := ?v67) ?hy67 ?r67
        case hy67 => (intro w hSw; (try dsimp only at hSw); go_simp; try with_reducible rfl)
        try simp only [aP]
        refine tq (i := 11) rfl (v := ?v68) ?hy68 ?r68
        case hy68 => (intro w hSw; (try dsimp only at hSw); go_simp; try with_reducible rfl)
        try simp only [aP]
        refine tq (i := 12) rfl (v := ?v69) ?hy69 ?r69
        case hy69 => (intro w hSw; (try dsimp only at hSw); go_simp; try with_reducible rfl)
        try simp only [aP]
        refine tq (i := 13) rfl (v := ?v70) ?hy70 ?r70
        case hy70 => (intro w hSw; (try dsimp only at hSw); go_simp; try with_reducible rfl)
        try simp only [aP]
        refine tq (i := 14) rfl (v := ?v71) ?hy71 ?r71
        case hy71 => (intro w hSw; (try dsimp only at hSw); go_simp; try with_reducible rfl)
        try simp only [aP]
        refine tq (i := 15) rfl (v := ?v72) ?hy72 ?r72
        case hy72 => (intro w hSw; (try dsimp only at hSw); go_simp; try with_reducible rfl)
        try simp only [aP]
        refine tq (i := 16) rfl (v := ?v73) ?hy73 ?r73
        case hy73 => (intro w hSw; (try dsimp only at hSw); go_simp; try with_reducible rfl)
        try simp only [aP]
        refine tq (i := 17) rfl (v := ?v74) ?hy74 ?r74
        case hy74 => (intro w hSw; (try dsimp only at hSw); go_simp; try with_reducible rfl)
        try simp only [aP]
        refine tq (i := 18) rfl (v := ?v75) ?hy75 ?r75
        case hy75 => (intro w hSw; (try dsimp only at hSw); go_simp; try with_reducible rfl)
        try simp only [aP]
        refine tq (i := 19) rfl (v := ?v76) ?hy76 ?r76
        case hy76 => (intro w hSw; (try dsimp only at hSw); go_simp; try with_reducible rfl)
        try simp only [aP]
        refine tq (i := 20) rfl (v := ?v77) ?hy77 ?r77
        case hy77 => (intro w hSw; (try dsimp only at hSw); go_simp; try with_reducible rfl)
        try simp only [aP]
        refine tq (i := 21) rfl (v := ?v78) ?hy78 ?r78
        case hy78 => (intro w hSw; (try dsimp only at hSw); go_simp; try with_reducible rfl)
        try simp only [aP]
        refine tq (i := 22) rfl (v := ?v79) ?hy79 ?r79
        case hy79 => (intro w hSw; (try dsimp only at hSw); go_simp; try with_reducible rfl)
        try simp only [aP]
        refine tq (i := 23) rfl (v := ?v80) ?hy80 ?r80
        case hy80 => (intro w hSw; (try dsimp only at hSw); go_simp; try with_reducible rfl)
        try simp only [aP]
        refine tq (i := 24) rfl (v := ?v81) ?hy81 ?r81
        case hy81 => (intro w hSw; (try dsimp only at hSw); go_simp; try with_reducible rfl)
        try simp only [aP]
        refine tq (i := 25) rfl (v := ?v82) ?hy82 ?r82
        case hy82 => (intro w hSw; (try dsimp only at hSw); go_simp; try with_reducible rfl)
        try simp only [aP]
        refine tq (i := 26) rfl (v := ?v83) ?hy83 ?r83
        case hy83 => (intro w hSw; (try dsimp only at hSw); go_simp; try with_reducible rfl)
        try simp only [aP]
        refine tq (i := 27) rfl (v := ?v84) ?hy84 ?r84
        case hy84 => (intro w hSw; (try dsimp only at hSw); go_simp; try with_reducible rfl)
        try simp only [aP]
        refine tq (i := 28) rfl (v := ?v85) ?hy85 ?r85
        case hy85 => (intro w hSw; (try dsimp only at hSw); go_simp; try with_reducible rfl)
        try simp only [aP]
        refine tq (i := 29) rfl (v := ?v86) ?hy86 ?r86
        case hy86 => (intro w hSw; (try dsimp only at hSw); go_simp; try with_reducible rfl)
        try simp only [aP]
        refine sq (i := 30) rfl ?_
        try simp only [aP]
        refine sq (i := 31) rfl ?_
        try simp only [aP]
        refine sq (i := 32) rfl ?_
        try simp only [aP]
        refine sq (i := 33) rfl ?_
        try simp only [aP]
        refine sq (i := 34) rfl ?_
        try simp only [aP]
        refine tq (i := 35) rfl (v := ?v87) ?hy87 ?r87
        case hy87 => (intro w hSw; (try dsimp only at hSw); go_simp; try with_reducible rfl)
        try simp only [aP]
        refine tq (i := 36) rfl (v := ?v88) ?hy88 ?r88
        case hy88 => (intro w hSw; (try dsimp only at hSw); go_simp; try with_reducible rfl)
        try simp only [aP]
        refine wpAnyH_done (by kernel_rfl) ?_ _
        go_wp2_with fail
        go_meet
        case rel => exact ⟨false, by first | rfl | simp [*], (fun h => by cases h), fun _ => ⟨HNM.out, by omega, HAN.out, .inl HZ0.out⟩, HD1.out⟩
       have hz0' : (z != 0) = true := by simpa using hz0
       try go_wp2_with fail
       refine wp_region_held_drew (S := fun w' => (w'.cell? ⟨wr.heap.size, 0, none⟩ = some (.string A) ∧ w'.cell? ⟨wr.heap.size, 1, none⟩ = some (.int .i64 z) ∧ w'.cell? ⟨wr.heap.size, 2, none⟩ = some (.slice u m c)) ∧ w'.cell? ⟨b, o + K * 3, none⟩ = some (.string M)) (by kernel_rfl) (⟨HCB.out _ (HD1.out), HCK.out _ (HD1.out)⟩) (fun hHeld => ?_)
       refine tq (i := 0) rfl (v := ?v89) ?hy89 ?r89
       case hy89 => (intro w hSw; (try dsimp only at hSw); go_simp; try with_reducible rfl)
       try simp only [aP]
       refine tq (i := 1) rfl (v := ?v90) ?hy90 ?r90
       case hy90 => (intro w hSw; (try dsimp only at hSw); go_simp; try with_reducible rfl)
       try simp only [aP]
       refine wpAnyH_ready (rs := [2]) (by kernel_rfl) (by simp) ?_
       refine cq rfl (fun K hK => ?_) AllReadyH.nil
       go_simp
       (go_at_call 34; refine (HNA.out _).mono ?_; rintro e w2 ⟨rfl, rfl⟩)
       try go_wp2_with fail
       refine hK.out _ _ (⟨HCB.out _ (HD1.out), HCK.out _ (HD1.out)⟩) (fun hHeld => ?_)
       clear hK K
       try simp only [aP]
       refine tq (i := 3) rfl (v := ?v91) ?hy91 ?r91
       case hy91 => (intro w hSw; (try dsimp only at hSw); go_simp; try with_reducible rfl)
       try simp only [aP]
       refine tq (i := 4) rfl (v := ?v92) ?hy92 ?r92
       case hy92 => (intro w hSw; (try dsimp only at hSw); go_simp; try with_reducible rfl)
       try simp only [aP]
       refine tq (i := 5) rfl (v := ?v93) ?hy93 ?r93
       case hy93 => (intro w hSw; (try dsimp only at hSw); go_simp; try with_reducible rfl)
       try simp only [aP]
       refine tq (i := 6) rfl (v := ?v94) ?hy94 ?r94
       case hy94 => (intro w hSw; (try dsimp only at hSw); go_simp; try with_reducible rfl)
       try simp only [aP]
       refine tq (i := 7) rfl (v := ?v95) ?hy95 ?r95
       case hy95 => (intro w hSw; (try dsimp only at hSw); go_simp; try with_reducible rfl)
       try simp only [aP]
       refine tq (i := 8) rfl (v := ?v96) ?hy96 ?r96
       case hy96 => (intro w hSw; (try dsimp only at hSw); go_simp; try with_reducible rfl)
       try simp only [aP]
       refine tq (i := 9) rfl (v := ?v97) ?hy97 ?r97
       case hy97 => (intro w hSw; (try dsimp only at hSw); go_simp; try with_reducible rfl)
       try simp only [aP]
       refine tq (i := 10) rfl (v := ?v98) ?hy98 ?r98
       case hy98 => (intro w hSw; (try dsimp only at hSw); go_simp; try with_reducible rfl)
       try simp only [aP]
       refine tq (i := 11) rfl (v := ?v99) ?hy99 ?r99
       case hy99 => (intro w hSw; (try dsimp only at hSw); go_simp; try with_reducible rfl)
       try simp only [aP]
       refine tq (i := 12) rfl (v := ?v100) ?hy100 ?r100
       case hy100 => (intro w hSw; (try dsimp only at hSw); go_simp; try with_reducible rfl)
       try simp only [aP]
       refine tq (i := 13) rfl (v := ?v101) ?hy101 ?r101
       case hy101 => (intro w hSw; (try dsimp only at hSw); go_simp; try with_reducible rfl)
       try simp only [aP]
       refine tq (i := 14) rfl (v := ?v102) ?hy102 ?r102
       case hy102 => (intro w hSw; (try dsimp only at hSw); go_simp; try with_reducible rfl)
       try simp only [aP]
       refine tq (i := 15) rfl (v := ?v103) ?hy103 ?r103
       case hy103 => (intro w hSw; (try dsimp only at hSw); go_simp; try with_reducible rfl)
       try simp only [aP]
       refine tq (i := 16) rfl (v := ?v104) ?hy104 ?r104
       case hy104 => (intro w hSw; (try dsimp only at hSw); go_simp; try with_reducible rfl)
       try simp only [aP]
       refine tq (i := 17) rfl (v := ?v105) ?hy105 ?r105
       case hy105 => (intro w hSw; (try dsimp only at hSw); go_simp; try with_reducible rfl)
       try simp only [aP]
       refine tq (i := 18) rfl (v := ?v106) ?hy106 ?r106
       case hy106 => (intro w hSw; (try dsimp only at hSw); go_simp; try with_reducible rfl)
       try simp only [aP]
       refine tq (i := 19) rfl (v := ?v107) ?hy107 ?r107
       case hy107 => (intro w hSw; (try dsimp only at hSw); go_simp; try with_reducible rfl)
       try simp only [aP]
       refine tq (i := 20) rfl (v := ?v108) ?hy108 ?r108
       case hy108 => (intro w hSw; (try dsimp only at hSw); go_simp; try with_reducible rfl)
       try simp only [aP]
       refine tq (i := 21) rfl (v := ?v109) ?hy109 ?r109
       case hy109 => (intro w hSw; (try dsimp only at hSw); go_simp; try with_reducible rfl)
       try simp only [aP]
       refine tq (i := 22) rfl (v := ?v110) ?hy110 ?r110
       case hy110 => (intro w hSw; (try dsimp only at hSw); go_simp; try with_reducible rfl)
       try simp only [aP]
       refine tq (i := 23) rfl (v := ?v111) ?hy111 ?r111
       case hy111 => (intro w hSw; (try dsimp only at hSw); go_simp; try with_reducible rfl)
       try simp only [aP]
       refine tq (i := 24) rfl (v := ?v112) ?hy112 ?r112
       case hy112 => (intro w hSw; (try dsimp only at hSw); go_simp; try with_reducible rfl)
       try simp only [aP]
       refine tq (i := 25) rfl (v := ?v113) ?hy113 ?r113
       case hy113 => (intro w hSw; (try dsimp only at hSw); go_simp; try with_reducible rfl)
       try simp only [aP]
       refine tq (i := 26) rfl (v := ?v114) ?hy114 ?r114
       case hy114 => (intro w hSw; (try dsimp only at hSw); go_simp; try with_reducible rfl)
       try simp only [aP]
       refine tq (i := 27) rfl (v := ?v115) ?hy115 ?r115
       case hy115 => (intro w hSw; (try dsimp only at hSw); go_simp; try with_reducible rfl)
       try simp only [aP]
       refine tq (i := 28) rfl (v := ?v116) ?hy116 ?r116
       case hy116 => (intro w hSw; (try dsimp only at hSw); go_simp; try with_reducible rfl)
       try simp only [aP]
       refine tq (i := 29) rfl (v := ?v117) ?hy117 ?r117
       case hy117 => (intro w hSw; (try dsimp only at hSw); go_simp; try with_reducible rfl)
       try simp only [aP]
       refine tq (i := 30) rfl (v := ?v118) ?hy118 ?r118
       case hy118 => (intro w hSw; (try dsimp only at hSw); go_simp; try with_reducible rfl)
       try simp only [aP]
       refine tq (i := 31) rfl (v := ?v119) ?hy119 ?r119
       case hy119 => (intro w hSw; (try dsimp only at hSw); go_simp; try with_reducible rfl)
       try simp only [aP]
       refine tq (i := 32) rfl (v := ?v120) ?hy120 ?r120
       case hy120 => (intro w hSw; (try dsimp only at hSw); go_simp; try with_reducible rfl)
       try simp only [aP]
       refine wpAnyH_ready (rs := [33]) (by kernel_rfl) (by simp) ?_
       refine cq rfl (fun K hK => ?_) AllReadyH.nil
       go_simp
       (go_at_call 78; refine (HLG.out _ HD1R.out).mono ?_; rintro e w3 ⟨rfl, hl3⟩; have hb3 : Below W1.heap.size W1 w3 := HD1.out.trans (hl3.mono HD1.out.size))
       try go_wp2_with fail
       refine hK.out _ _ (⟨HCB.out _ (hb3), HCK.out _ (hb3)⟩) (fun hHeld => ?_)
       clear hK K
       try simp only [aP]
       refine tq (i := 34) rfl (v := ?v121) ?hy121 ?r121
       case hy121 => (intro w hSw; (try dsimp only at hSw); go_simp; try with_reducible rfl)
       try simp only [aP]
       refine tq (i := 35) rfl (v := ?v122) ?hy122 ?r122
       case hy122 => (intro w hSw; (try dsimp only at hSw); go_simp; try with_reducible rfl)
       try simp only [aP]
       refine tq (i := 36) rfl (v := ?v123) ?hy123 ?r123
       case hy123 => (intro w hSw; (try dsimp only at hSw); go_simp; try with_reducible rfl)
       try simp only [aP]
       refine wpAnyH_done (by kernel_rfl) ?_ _
       go_wp2_with fail
       go_meet
       case rel => exact ⟨decide (r < 0), by first | rfl | simp [*], (fun h => HPF.out (fun h2 => by have := h2.now; rw [HE.out.2.1, HR.out] at this; have := of_decide_eq_true h; omega)), (fun h => ⟨HNM.out, by omega, HAN.out, .inr (by have := of_decide_eq_false h; omega)⟩), hb3⟩
     ·have hi1' : ¬ (0 : Int) < (i : Int) := by omega
      have HA0 : Hid (AdjP (ps.take (i + 1))) := fun j x y hx hy => by
       have := (List.getElem?_eq_some_iff.1 hy).1
       simp at this
       omega
      by_cases hm5 : 50 < m
      ·have hm5' : decide ((50 : Int) < (m : Int)) = true := decide_eq_true (by omega)
       try go_wp2_with fail
       refine wp_region_held_drew (S := fun w' => (w'.cell? ⟨wr.heap.size, 0, none⟩ = some (.string A) ∧ w'.cell? ⟨wr.heap.size, 1, none⟩ = some (.int .i64 z) ∧ w'.cell? ⟨wr.heap.size, 2, none⟩ = some (.slice u m c))) (by kernel_rfl) (HCB.out _ (HD1.out)) (fun hHeld => ?_)
       refine tq (i := 0) rfl (v := ?v124) ?hy124 ?r124
       case hy124 => (intro w hSw; (try dsimp only at hSw); go_simp; try with_reducible rfl)
       try simp only [aP]
       refine tq (i := 1) rfl (v := ?v125) ?hy125 ?r125
       case hy125 => (intro w hSw; (try dsimp only at hSw); go_simp; try with_reducible rfl)
       try simp only [aP]
       refine wpAnyH_ready (rs := [2]) (by kernel_rfl) (by simp) ?_
       refine cq rfl (fun K hK => ?_) AllReadyH.nil
       go_simp
       (go_at_call 34; refine (HNA.out _).mono ?_; rintro e w2 ⟨rfl, rfl⟩)
       try go_wp2_with fail
       refine hK.out _ _ (HCB.out _ (HD1.out)) (fun hHeld => ?_)
       clear hK K
       try simp only [aP]
       refine tq (i := 3) rfl (v := ?v126) ?hy126 ?r126
       case hy126 => (intro w hSw; (try dsimp only at hSw); go_simp; try with_reducible rfl)
       try simp only [aP]
       refine tq (i := 4) rfl (v := ?v127) ?hy127 ?r127
       case hy127 => (intro w hSw; (try dsimp only at hSw); go_simp; try with_reducible rfl)
       try simp only [aP]
       refine tq (i := 5) rfl (v := ?v128) ?hy128 ?r128
       case hy128 => (intro w hSw; (try dsimp only at hSw); go_simp; try with_reducible rfl)
       try simp only [aP]
       refine tq (i := 6) rfl (v := ?v129) ?hy129 ?r129
       case hy129 => (intro w hSw; (try dsimp only at hSw); go_simp; try with_reducible rfl)
       try simp only [aP]
       refine tq (i := 7) rfl (v := ?v130) ?hy130 ?r130
       case hy130 => (intro w hSw; (try dsimp only at hSw); go_simp; try with_reducible rfl)
       try simp only [aP]
       refine sq (i := 8) rfl ?_
       try simp only [aP]
       refine sq (i := 9) rfl ?_
       try simp only [aP]
       refine sq (i := 10) rfl ?_
       try simp only [aP]
       refine sq (i := 11) rfl ?_
       try simp only [aP]
       refine sq (i := 12) rfl ?_
       try simp only [aP]
       refine sq (i := 13) rfl ?_
       try simp only [aP]
       refine sq (i := 14) rfl ?_
       try simp only [aP]
       refine sq (i := 15) rfl ?_
       try simp only [aP]
       refine sq (i := 16) rfl ?_
       try simp only [aP]
       refine tq (i := 17) rfl (v := ?v131) ?hy131 ?r131
       case hy131 => (intro w hSw; (try dsimp only at hSw); go_simp; try with_reducible rfl)
       try simp only [aP]
       refine tq (i := 18) rfl (v := ?v132) ?hy132 ?r132
       case hy132 => (intro w hSw; (try dsimp only at hSw); go_simp; try with_reducible rfl)
       try simp only [aP]
       refine tq (i := 19) rfl (v := ?v133) ?hy133 ?r133
       case hy133 => (intro w hSw; (try dsimp only at hSw); go_simp; try with_reducible rfl)
       try simp only [aP]
       refine tq (i := 20) rfl (v := ?v134) ?hy134 ?r134
       case hy134 => (intro w hSw; (try dsimp only at hSw); go_simp; try with_reducible rfl)
       try simp only [aP]
       refine tq (i := 21) rfl (v := ?v135) ?hy135 ?r135
       case hy135 => (intro w hSw; (try dsimp only at hSw); go_simp; try with_reducible rfl)
       try simp only [aP]
       refine tq (i := 22) rfl (v := ?v136) ?hy136 ?r136
       case hy136 => (intro w hSw; (try dsimp only at hSw); go_simp; try with_reducible rfl)
       try simp only [aP]
       refine tq (i := 23) rfl (v := ?v137) ?hy137 ?r137
       case hy137 => (intro w hSw; (try dsimp only at hSw); go_simp; try with_reducible rfl)
       try simp only [aP]
       refine tq (i := 24) rfl (v := ?v138) ?hy138 ?r138
       case hy138 => (intro w hSw; (try dsimp only at hSw); go_simp; try with_reducible rfl)
       try simp only [aP]
       refine tq (i := 25) rfl (v := ?v139) ?hy139 ?r139
       case hy139 => (intro w hSw; (try dsimp only at hSw); go_simp; try with_reducible rfl)
       try simp only [aP]
       refine sq (i := 26) rfl ?_
       try simp only [aP]
       refine sq (i := 27) rfl ?_
       try simp only [aP]
       refine sq (i := 28) rfl ?_
       try simp only [aP]
       refine sq (i := 29) rfl ?_
       try simp only [aP]
       refine sq (i := 30) rfl ?_
       try simp only [aP]
       refine sq (i := 31) rfl ?_
       try simp only [aP]
       refine sq (i := 32) rfl ?_
       try simp only [aP]
       refine sq (i := 33) rfl ?_
       try simp only [aP]
       refine sq (i := 34) rfl ?_
       try simp only [aP]
       refine sq (i := 35) rfl ?_
       try simp only [aP]
       refine tq (i := 36) rfl (v := ?v140) ?hy140 ?r140
       case hy140 => (intro w hSw; (try dsimp only at hSw); go_simp; try with_reducible rfl)
       try simp only [aP]
       refine wpAnyH_done (by kernel_rfl) ?_ _
       go_wp2_with fail
       go_meet
       case rel => exact ⟨true, by first | rfl | simp [*], fun _ => HPF.out (fun h => by have := h.few; rw [HE.out.2.2] at this; omega), (fun h => by cases h), HD1.out⟩
      have hm5' : decide ((50 : Int) < (m : Int)) = false := decide_eq_false (by omega)
      by_cases hz0 : z = 0
      ·have hz0' : (z != 0) = false := by simpa using hz0
       have HZ0 : Hid (z = 0) := hz0
       clear hz0
       try go_wp2_with fail
       refine wp_region_held_drew (S := fun w' => (w'.cell? ⟨wr.heap.size, 0, none⟩ = some (.string A) ∧ w'.cell? ⟨wr.heap.size, 1, none⟩ = some (.int .i64 z) ∧ w'.cell? ⟨wr.heap.size, 2, none⟩ = some (.slice u m c))) (by kernel_rfl) (HCB.out _ (HD1.out)) (fun hHeld => ?_)
       refine tq (i := 0) rfl (v := ?v141) ?hy141 ?r141
       case hy141 => (intro w hSw; (try dsimp only at hSw); go_simp; try with_reducible rfl)
       try simp only [aP]
       refine tq (i := 1) rfl (v := ?v142) ?hy142 ?r142
       case hy142 => (intro w hSw; (try dsimp only at hSw); go_simp; try with_reducible rfl)
       try simp only [aP]
       refine wpAnyH_ready (rs := [2]) (by kernel_rfl) (by simp) ?_
       refine cq rfl (fun K hK => ?_) AllReadyH.nil
       go_simp
       (go_at_call 34; refine (HNA.out _).mono ?_; rintro e w2 ⟨rfl, rfl⟩)
       try go_wp2_with fail
       refine hK.out _ _ (HCB.out _ (HD1.out)) (fun hHeld => ?_)
       clear hK K
       try simp only [aP]
       refine tq (i := 3) rfl (v := ?v143) ?hy143 ?r143
       case hy143 => (intro w hSw; (try dsimp only at hSw); go_simp; try with_reducible rfl)
       try simp only [aP]
       refine tq (i := 4) rfl (v := ?v144) ?hy144 ?r144
       case hy144 => (intro w hSw; (try dsimp only at hSw); go_simp; try with_reducible rfl)
       try simp only [aP]
       refine tq (i := 5) rfl (v := ?v145) ?hy145 ?r145
       case hy145 => (intro w hSw; (try dsimp only at hSw); go_simp; try with_reducible rfl)
       try simp only [aP]
       refine tq (i := 6) rfl (v := ?v146) ?hy146 ?r146
       case hy146 => (intro w hSw; (try dsimp only at hSw); go_simp; try with_reducible rfl)
       try simp only [aP]
       refine tq (i := 7) rfl (v := ?v147) ?hy147 ?r147
       case hy147 => (intro w hSw; (try dsimp only at hSw); go_simp; try with_reducible rfl)
       try simp only [aP]
       refine sq (i := 8) rfl ?_
       try simp only [aP]
       refine sq (i := 9) rfl ?_
       try simp only [aP]
       refine sq (i := 10) rfl ?_
       try simp only [aP]
       refine sq (i := 11) rfl ?_
       try simp only [aP]
       refine sq (i := 12) rfl ?_
       try simp only [aP]
       refine sq (i := 13) rfl ?_
       try simp only [aP]
       refine sq (i := 14) rfl ?_
       try simp only [aP]
       refine sq (i := 15) rfl ?_
       try simp only [aP]
       refine sq (i := 16) rfl ?_
       try simp only [aP]
       refine tq (i := 17) rfl (v := ?v148) ?hy148 ?r148
       case hy148 => (intro w hSw; (try dsimp only at hSw); go_simp; try with_reducible rfl)
       try simp only [aP]
       refine tq (i := 18) rfl (v := ?v149) ?hy149 ?r149
       case hy149 => (intro w hSw; (try dsimp only at hSw); go_simp; try with_reducible rfl)
       try simp only [aP]
       refine tq (i := 19) rfl (v := ?v150) ?hy150 ?r150
       case hy150 => (intro w hSw; (try dsimp only at hSw); go_simp; try with_reducible rfl)
       try simp only [aP]
       refine tq (i := 20) rfl (v := ?v151) ?hy151 ?r151
       case hy151 => (intro w hSw; (try dsimp only at hSw); go_simp; try with_reducible rfl)
       try simp only [aP]
       refine tq (i := 21) rfl (v := ?v152) ?hy152 ?r152
       case hy152 => (intro w hSw; (try dsimp only at hSw); go_simp; try with_reducible rfl)
       try simp only [aP]
       refine tq (i := 22) rfl (v := ?v153) ?hy153 ?r153
       case hy153 => (intro w hSw; (try dsimp only at hSw); go_simp; try with_reducible rfl)
       try simp only [aP]
       refine tq (i := 23) rfl (v := ?v154) ?hy154 ?r154
       case hy154 => (intro w hSw; (try dsimp only at hSw); go_simp; try with_reducible rfl)
       try simp only [aP]
       refine tq (i := 24) rfl (v := ?v155) ?hy155 ?r155
       case hy155 => (intro w hSw; (try dsimp only at hSw); go_simp; try with_reducible rfl)
       try simp only [aP]
       refine tq (i := 25) rfl (v := ?v156) ?hy156 ?r156
       case hy156 => (intro w hSw; (try dsimp only at hSw); go_simp; try with_reducible rfl)
       try simp only [aP]
       refine tq (i := 26) rfl (v := ?v157) ?hy157 ?r157
       case hy157 => (intro w hSw; (try dsimp only at hSw); go_simp; try with_reducible rfl)
       try simp only [aP]
       refine tq (i := 27) rfl (v := ?v158) ?hy158 ?r158
       case hy158 => (intro w hSw; (try dsimp only at hSw); go_simp; try with_reducible rfl)
       try simp only [aP]
       refine tq (i := 28) rfl (v := ?v159) ?hy159 ?r159
       case hy159 => (intro w hSw; (try dsimp only at hSw); go_simp; try with_reducible rfl)
       try simp only [aP]
       refine tq (i := 29) rfl (v := ?v160) ?hy160 ?r160
       case hy160 => (intro w hSw; (try dsimp only at hSw); go_simp; try with_reducible rfl)
       try simp only [aP]
       refine sq (i := 30) rfl ?_
       try simp only [aP]
       refine sq (i := 31) rfl ?_
       try simp only [aP]
       refine sq (i := 32) rfl ?_
       try simp only [aP]
       refine sq (i := 33) rfl ?_
       try simp only [aP]
       refine sq (i := 34) rfl ?_
       try simp only [aP]
       refine tq (i := 35) rfl (v := ?v161) ?hy161 ?r161
       case hy161 => (intro w hSw; (try dsimp only at hSw); go_simp; try with_reducible rfl)
       try simp only [aP]
       refine tq (i := 36) rfl (v := ?v162) ?hy162 ?r162
       case hy162 => (intro w hSw; (try dsimp only at hSw); go_simp; try with_reducible rfl)
       try simp only [aP]
       refine wpAnyH_done (by kernel_rfl) ?_ _
       go_wp2_with fail
       go_meet
       case rel => exact ⟨false, by first | rfl | simp [*], (fun h => by cases h), fun _ => ⟨HNM.out, by omega, HA0.out, .inl HZ0.out⟩, HD1.out⟩
      have hz0' : (z != 0) = true := by simpa using hz0
      try go_wp2_with fail
      refine wp_region_held_drew (S := fun w' => (w'.cell? ⟨wr.heap.size, 0, none⟩ = some (.string A) ∧ w'.cell? ⟨wr.heap.size, 1, none⟩ = some (.int .i64 z) ∧ w'.cell? ⟨wr.heap.size, 2, none⟩ = some (.slice u m c))) (by kernel_rfl) (HCB.out _ (HD1.out)) (fun hHeld => ?_)
      refine tq (i := 0) rfl (v := ?v163) ?hy163 ?r163
      case hy163 => (intro w hSw; (try dsimp only at hSw); go_simp; try with_reducible rfl)
      try simp only [aP]
      refine tq (i := 1) rfl (v := ?v164) ?hy164 ?r164
      case hy164 => (intro w hSw; (try dsimp only at hSw); go_simp; try with_reducible rfl)
      try simp only [aP]
      refine wpAnyH_ready (rs := [2]) (by kernel_rfl) (by simp) ?_
      refine cq rfl (fun K hK => ?_) AllReadyH.nil
      go_simp
      (go_at_call 34; refine (HNA.out _).mono ?_; rintro e w2 ⟨rfl, rfl⟩)
      try go_wp2_with fail
      refine hK.out _ _ (HCB.out _ (HD1.out)) (fun hHeld => ?_)
      clear hK K
      try simp only [aP]
      refine tq (i := 3) rfl (v := ?v165) ?hy165 ?r165
      case hy165 => (intro w hSw; (try dsimp only at hSw); go_simp; try with_reducible rfl)
      try simp only [aP]
      refine tq (i := 4) rfl (v := ?v166) ?hy166 ?r166
      case hy166 => (intro w hSw; (try dsimp only at hSw); go_simp; try with_reducible rfl)
      try simp only [aP]
      refine tq (i := 5) rfl (v := ?v167) ?hy167 ?r167
      case hy167 => (intro w hSw; (try dsimp only at hSw); go_simp; try with_reducible rfl)
      try simp only [aP]
      refine tq (i := 6) rfl (v := ?v168) ?hy168 ?r168
      case hy168 => (intro w hSw; (try dsimp only at hSw); go_simp; try with_reducible rfl)
      try simp only [aP]
      refine tq (i := 7) rfl (v := ?v169) ?hy169 ?r169
      case hy169 => (intro w hSw; (try dsimp only at hSw); go_simp; try with_reducible rfl)
      try simp only [aP]
      refine sq (i := 8) rfl ?_
      try simp only [aP]
      refine sq (i := 9) rfl ?_
      try simp only [aP]
      refine sq (i := 10) rfl ?_
      try simp only [aP]
      refine sq (i := 11) rfl ?_
      try simp only [aP]
      refine sq (i := 12) rfl ?_
      try simp only [aP]
      refine sq (i := 13) rfl ?_
      try simp only [aP]
      refine sq (i := 14) rfl ?_
      try simp only [aP]
      refine sq (i := 15) rfl ?_
      try simp only [aP]
      refine sq (i := 16) rfl ?_
      try simp only [aP]
      refine tq (i := 17) rfl (v := ?v170) ?hy170 ?r170
      case hy170 => (intro w hSw; (try dsimp only at hSw); go_simp; try with_reducible rfl)
      try simp only [aP]
      refine tq (i := 18) rfl (v := ?v171) ?hy171 ?r171
      case hy171 => (intro w hSw; (try dsimp only at hSw); go_simp; try with_reducible rfl)
      try simp only [aP]
      refine tq (i := 19) rfl (v := ?v172) ?hy172 ?r172
      case hy172 => (intro w hSw; (try dsimp only at hSw); go_simp; try with_reducible rfl)
      try simp only [aP]
      refine tq (i := 20) rfl (v := ?v173) ?hy173 ?r173
      case hy173 => (intro w hSw; (try dsimp only at hSw); go_simp; try with_reducible rfl)
      try simp only [aP]
      refine tq (i := 21) rfl (v := ?v174) ?hy174 ?r174
      case hy174 => (intro w hSw; (try dsimp only at hSw); go_simp; try with_reducible rfl)
      try simp only [aP]
      refine tq (i := 22) rfl (v := ?v175) ?hy175 ?r175
      case hy175 => (intro w hSw; (try dsimp only at hSw); go_simp; try with_reducible rfl)
      try simp only [aP]
      refine tq (i := 23) rfl (v := ?v176) ?hy176 ?r176
      case hy176 => (intro w hSw; (try dsimp only at hSw); go_simp; try with_reducible rfl)
      try simp only [aP]
      refine tq (i := 24) rfl (v := ?v177) ?hy177 ?r177
      case hy177 => (intro w hSw; (try dsimp only at hSw); go_simp; try with_reducible rfl)
      try simp only [aP]
      refine tq (i := 25) rfl (v := ?v178) ?hy178 ?r178
      case hy178 => (intro w hSw; (try dsimp only at hSw); go_simp; try with_reducible rfl)
      try simp only [aP]
      refine tq (i := 26) rfl (v := ?v179) ?hy179 ?r179
      case hy179 => (intro w hSw; (try dsimp only at hSw); go_simp; try with_reducible rfl)
      try simp only [aP]
      refine tq (i := 27) rfl (v := ?v180) ?hy180 ?r180
      case hy180 => (intro w hSw; (try dsimp only at hSw); go_simp; try with_reducible rfl)
      try simp only [aP]
      refine tq (i := 28) rfl (v := ?v181) ?hy181 ?r181
      case hy181 => (intro w hSw; (try dsimp only at hSw); go_simp; try with_reducible rfl)
      try simp only [aP]
      refine tq (i := 29) rfl (v := ?v182) ?hy182 ?r182
      case hy182 => (intro w hSw; (try dsimp only at hSw); go_simp; try with_reducible rfl)
      try simp only [aP]
      refine tq (i := 30) rfl (v := ?v183) ?hy183 ?r183
      case hy183 => (intro w hSw; (try dsimp only at hSw); go_simp; try with_reducible rfl)
      try simp only [aP]
      refine tq (i := 31) rfl (v := ?v184) ?hy184 ?r184
      case hy184 => (intro w hSw; (try dsimp only at hSw); go_simp; try with_reducible rfl)
      try simp only [aP]
      refine tq (i := 32) rfl (v := ?v185) ?hy185 ?r185
      case hy185 => (intro w hSw; (try dsimp only at hSw); go_simp; try with_reducible rfl)
      try simp only [aP]
      refine wpAnyH_ready (rs := [33]) (by kernel_rfl) (by simp) ?_
      refine cq rfl (fun K hK => ?_) AllReadyH.nil
      go_simp
      (go_at_call 78; refine (HLG.out _ HD1R.out).mono ?_; rintro e w3 ⟨rfl, hl3⟩; have hb3 : Below W1.heap.size W1 w3 := HD1.out.trans (hl3.mono HD1.out.size))
      try go_wp2_with fail
      refine hK.out _ _ (HCB.out _ (hb3)) (fun hHeld => ?_)
      clear hK K
      try simp only [aP]
      refine tq (i := 34) rfl (v := ?v186) ?hy186 ?r186
      case hy186 => (intro w hSw; (try dsimp only at hSw); go_simp; try with_reducible rfl)
      try simp only [aP]
      refine tq (i := 35) rfl (v := ?v187) ?hy187 ?r187
      case hy187 => (intro w hSw; (try dsimp only at hSw); go_simp; try with_reducible rfl)
      try simp only [aP]
      refine tq (i := 36) rfl (v := ?v188) ?hy188 ?r188
      case hy188 => (intro w hSw; (try dsimp only at hSw); go_simp; try with_reducible rfl)
      try simp only [aP]
      refine wpAnyH_done (by kernel_rfl) ?_ _
      go_wp2_with fail
      go_meet
      case rel => exact ⟨decide (r < 0), by first | rfl | simp [*], (fun h => HPF.out (fun h2 => by have := h2.now; rw [HE.out.2.1, HR.out] at this; have := of_decide_eq_true h; omega)), (fun h => ⟨HNM.out, by omega, HA0.out, .inr (by have := of_decide_eq_false h; omega)⟩), hb3⟩
   case rest =>
    obtain ⟨bd, rfl, ht, hf, hbc⟩ := hcut
    have HBC : Hid (Below W1.heap.size W1 wc) := hbc
    have HBW : Hid (Below w.heap.size w wc) := HB1.out.trans (hbc.mono HB1.out.size)
    cases bd with
    | true =>
     have HF : Hid (psB ps = false) := ht rfl
     clear ht hf hbc
     go_wp2
     go_ret
     exact ⟨by rw [HF.out]; first | done | rfl, HBW.out⟩
    | false =>
     obtain ⟨hnm, hm5, han, hzr⟩ := hf rfl
     have HNM : Hid (nm.nameB A = true) := hnm
     have HAN : Hid (AdjP (ps.take (i + 1))) := han
     have HZR : Hid (z = 0 ∨ 0 ≤ r) := hzr
     have hcb := (HCB.out _ hbc).2.2
     clear ht hf hnm han hzr hbc
     obtain ⟨wo, rfl⟩ : ∃ wo, wo = wr := ⟨_, rfl⟩
     go_wp2_with fail
     go_loopw [5, 6] (fun y _ wr => ∃ k : Nat, k ≤ m ∧ y = .int .i64 (k : Int) ∧ (∀ (j : Nat) (g : Gn), j < k → x.gens[j]? = some g → GOk g) ∧ AdjG (x.gens.take k) ∧ Below W1.heap.size W1 wr) (fun y _ _ => m - (intOf y).toNat)
     case atStart => exact ⟨0, Nat.zero_le _, rfl, fun j g h => by omega, fun j y y' h => by simp at h, HBC.out⟩
     case round =>
      obtain ⟨k, hk, rfl, hok, hadj, hbel⟩ := hrel
      have HOK : Hid (∀ (j : Nat) (y : Gn), j < k → x.gens[j]? = some y → GOk y) := hok
      have HADJ : Hid (AdjG (x.gens.take k)) := hadj
      have HB2 : Hid (Below W1.heap.size W1 wr) := hbel
      have hcb := (HCB.out _ hbel).2.2
      clear hok hadj hbel
      by_cases hkm : k < m
      ·have hkm' : (k : Int) < (m : Int) := by omega
       have hk0 : (0 : Int) ≤ (k : Int) := by omega
       obtain ⟨g, hg⟩ : ∃ g, x.gens[k]? = some g := ⟨_, List.getElem?_eq_getElem (by rw [HE.out.2.2]; exact hkm)⟩
       have HBQ : Hid (Below wo.heap.size wo wr) := HBR.out.trans (HB2.out.mono HBR.out.size)
       rcases HSG.out _ (Below.refl _ _) with h | ⟨gb, go, rfl, hcg⟩
       ·have := HE.out.2.2; rw [h] at this; simp at this; omega
       obtain ⟨q0, q1⟩ := (hcg k g hg).below HBQ.out
       have hps := wt_path (List.mem_of_getElem? HX.out) (List.mem_of_getElem? hg)
       obtain ⟨gn, hgn⟩ : ∃ t, g.n = t := ⟨_, rfl⟩
       obtain ⟨gp, hgp⟩ : ∃ t, g.p = t := ⟨_, rfl⟩
       have HGE : Hid (g.n = gn ∧ g.p = gp) := ⟨hgn, hgp⟩
       have HXG : Hid (x.gens[k]? = some g) := hg
       rw [hgn] at q0
       rw [hgp] at q1 hps
       have HAD : Hid (∀ W, Calls Tryz.prog 35 #[.string gp] W fun e w' => e = .returned (.bool (wd.aokB gp)) ∧ w' = W) := fun W => wd.aspec_any gp (by have := HWT.out; omega) W
       have HDG : Hid (Below W1.heap.size W1 (wr.alloc (.cells #[.int .i64 gn, .string gp] 74)).drew) := (HB2.out.alloc HB2.out.size _).drew
       have HDE : Hid ((wr.alloc (.cells #[.int .i64 gn, .string gp] 74)).drew.heap[wr.heap.size]? = (wr.alloc (.cells #[.int .i64 gn, .string gp] 74)).heap[wr.heap.size]?) := rfl
       have HCG : Hid (∀ w' : World, Below W1.heap.size W1 w' → w'.heap[wr.heap.size]? = (wr.alloc (.cells #[.int .i64 gn, .string gp] 74)).heap[wr.heap.size]? → (w'.cell? ⟨wr.heap.size, 0, none⟩ = some (.int .i64 gn) ∧ w'.cell? ⟨wr.heap.size, 1, none⟩ = some (.string gp)) ∧ w'.cell? ⟨wo.heap.size, 2, none⟩ = some (.slice (some ⟨gb, go, none⟩) m c)) := fun w' hb he => ⟨⟨(World.cell?_of_block (a := ⟨wr.heap.size, 0, none⟩) he).trans (by simp [go_sem]), (World.cell?_of_block (a := ⟨wr.heap.size, 1, none⟩) he).trans (by simp [go_sem])⟩, (HCB.out _ hb).2.2⟩
       have HCH : Hid (∀ (j : Nat) (y : Gn), x.gens[j]? = some y → ∀ w', Below W1.heap.size W1 w' → w'.cell? ⟨gb, go + j * 2, none⟩ = some (.int .i64 y.n)) := fun j y hy w' hb => ((hcg j y hy).below (HBR.out.trans (hb.mono HBR.out.size))).1
       clear hgn hgp hg hps hcg
       go_upto_region 13 with fail
       go_cut [98] from 69 to 98 (fun v wx => ∃ bd : Bool, v = .bool bd ∧ (bd = true → psB ps = false) ∧ (bd = false → GOk g ∧ AdjG (x.gens.take (k + 1))) ∧ Below W1.heap.size W1 wx)
       case first =>
        by_cases e1 : gn < 1
        ·have e1' : decide (gn < 1) = true := decide_eq_true e1
         have HF : Hid (psB ps = false) := HPF.out fun h => by have := (h.gen k g HXG.out).1; rw [HGE.out.1] at this; omega
         try go_wp2_with fail
         refine wp_region_held_drew (S := fun w' => (w'.cell? ⟨wr.heap.size, 0, none⟩ = some (.int .i64 gn) ∧ w'.cell? ⟨wr.heap.size, 1, none⟩ = some (.string gp)) ∧ w'.cell? ⟨wo.heap.size, 2, none⟩ = some (.slice (some ⟨gb, go, none⟩) m c)) (by kernel_rfl) (HCG.out _ HDG.out HDE.out) (fun hHeld => ?_)
         refine tq (i := 0) rfl (v := ?v189) ?hy189 ?r189
         case hy189 => (intro w hSw; (try dsimp only at hSw); go_simp; try with_reducible rfl)
         try simp only [aP]
         refine tq (i := 1) rfl (v := ?v190) ?hy190 ?r190
         case hy190 => (intro w hSw; (try dsimp only at hSw); go_simp; try with_reducible rfl)
         try simp only [aP]
         refine tq (i := 2) rfl (v := ?v191) ?hy191 ?r191
         case hy191 => (intro w hSw; (try dsimp only at hSw); go_simp; try with_reducible rfl)
         try simp only [aP]
         refine tq (i := 3) rfl (v := ?v192) ?hy192 ?r192
         case hy192 => (intro w hSw; (try dsimp only at hSw); go_simp; try with_reducible rfl)
         try simp only [aP]
         refine sq (i := 4) rfl ?_
         try simp only [aP]
         refine sq (i := 5) rfl ?_
         try simp only [aP]
         refine sq (i := 6) rfl ?_
         try simp only [aP]
         refine tq (i := 7) rfl (v := ?v193) ?hy193 ?r193
         case hy193 => (intro w hSw; (try dsimp only at hSw); go_simp; try with_reducible rfl)
         try simp only [aP]
         refine tq (i := 8) rfl (v := ?v194) ?hy194 ?r194
         case hy194 => (intro w hSw; (try dsimp only at hSw); go_simp; try with_reducible rfl)
         try simp only [aP]
         refine sq (i := 9) rfl ?_
         try simp only [aP]
         refine sq (i := 10) rfl ?_
         try simp only [aP]
         refine sq (i := 11) rfl ?_
         try simp only [aP]
         refine sq (i := 12) rfl ?_
         try simp only [aP]
         refine sq (i := 13) rfl ?_
         try simp only [aP]
         refine sq (i := 14) rfl ?_
         try simp only [aP]
         refine sq (i := 15) rfl ?_
         try simp only [aP]
         refine sq (i := 16) rfl ?_
         try simp only [aP]
         refine sq (i := 17) rfl ?_
         try simp only [aP]
         refine sq (i := 18) rfl ?_
         try simp only [aP]
         refine sq (i := 19) rfl ?_
         try simp only [aP]
         refine sq (i := 20) rfl ?_
         try simp only [aP]
         refine sq (i := 21) rfl ?_
         try simp only [aP]
         refine sq (i := 22) rfl ?_
         try simp only [aP]
         refine tq (i := 23) rfl (v := ?v195) ?hy195 ?r195
         case hy195 => (intro w hSw; (try dsimp only at hSw); go_simp; try with_reducible rfl)
         try simp only [aP]
         refine tq (i := 24) rfl (v := ?v196) ?hy196 ?r196
         case hy196 => (intro w hSw; (try dsimp only at hSw); go_simp; try with_reducible rfl)
         try simp only [aP]
         refine sq (i := 25) rfl ?_
         try simp only [aP]
         refine sq (i := 26) rfl ?_
         try simp only [aP]
         refine sq (i := 27) rfl ?_
         try simp only [aP]
         refine sq (i := 28) rfl ?_
         try simp only [aP]
         refine tq (i := 29) rfl (v := ?v197) ?hy197 ?r197
         case hy197 => (intro w hSw; (try dsimp only at hSw); go_simp; try with_reducible rfl)
         try simp only [aP]
         refine wpAnyH_done (by kernel_rfl) ?_ _
         go_wp2_with fail
         go_meet
         case rel => exact ⟨true, by first | rfl | simp [*], fun _ => HF.out, (fun h => by cases h), HDG.out⟩
        have e1' : decide (gn < 1) = false := decide_eq_false e1
        by_cases e2 : 9007199254740992 < gn
        ·have e2' : decide (9007199254740992 < gn) = true := decide_eq_true e2
         have HF : Hid (psB ps = false) := HPF.out fun h => by have := (h.gen k g HXG.out).2.1; rw [HGE.out.1] at this; omega
         try go_wp2_with fail
         refine wp_region_held_drew (S := fun w' => (w'.cell? ⟨wr.heap.size, 0, none⟩ = some (.int .i64 gn) ∧ w'.cell? ⟨wr.heap.size, 1, none⟩ = some (.string gp)) ∧ w'.cell? ⟨wo.heap.size, 2, none⟩ = some (.slice (some ⟨gb, go, none⟩) m c)) (by kernel_rfl) (HCG.out _ HDG.out HDE.out) (fun hHeld => ?_)
         refine tq (i := 0) rfl (v := ?v198) ?hy198 ?r198
         case hy198 => (intro w hSw; (try dsimp only at hSw); go_simp; try with_reducible rfl)
         try simp only [aP]
         refine tq (i := 1) rfl (v := ?v199) ?hy199 ?r199
         case hy199 => (intro w hSw; (try dsimp only at hSw); go_simp; try with_reducible rfl)
         try simp only [aP]
         refine tq (i := 2) rfl (v := ?v200) ?hy200 ?r200
         case hy200 => (intro w hSw; (try dsimp only at hSw); go_simp; try with_reducible rfl)
         try simp only [aP]
         refine tq (i := 3) rfl (v := ?v201) ?hy201 ?r201
         case hy201 => (intro w hSw; (try dsimp only at hSw); go_simp; try with_reducible rfl)
         try simp only [aP]
         refine tq (i := 4) rfl (v := ?v202) ?hy202 ?r202
         case hy202 => (intro w hSw; (try dsimp only at hSw); go_simp; try with_reducible rfl)
         try simp only [aP]
         refine tq (i := 5) rfl (v := ?v203) ?hy203 ?r203
         case hy203 => (intro w hSw; (try dsimp only at hSw); go_simp; try with_reducible rfl)
         try simp only [aP]
         refine tq (i := 6) rfl (v := ?v204) ?hy204 ?r204
         case hy204 => (intro w hSw; (try dsimp only at hSw); go_simp; try with_reducible rfl)
         try simp only [aP]
         refine tq (i := 7) rfl (v := ?v205) ?hy205 ?r205
         case hy205 => (intro w hSw; (try dsimp only at hSw); go_simp; try with_reducible rfl)
         try simp only [aP]
         refine tq (i := 8) rfl (v := ?v206) ?hy206 ?r206
         case hy206 => (intro w hSw; (try dsimp only at hSw); go_simp; try with_reducible rfl)
         try simp only [aP]
         refine sq (i := 9) rfl ?_
         try simp only [aP]
         refine sq (i := 10) rfl ?_
         try simp only [aP]
         refine sq (i := 11) rfl ?_
         try simp only [aP]
         refine sq (i := 12) rfl ?_
         try simp only [aP]
         refine sq (i := 13) rfl ?_
         try simp only [aP]
         refine sq (i := 14) rfl ?_
         try simp only [aP]
         refine sq (i := 15) rfl ?_
         try simp only [aP]
         refine sq (i := 16) rfl ?_
         try simp only [aP]
         refine sq (i := 17) rfl ?_
         try simp only [aP]
         refine sq (i := 18) rfl ?_
         try simp only [aP]
         refine sq (i := 19) rfl ?_
         try simp only [aP]
         refine sq (i := 20) rfl ?_
         try simp only [aP]
         refine sq (i := 21) rfl ?_
         try simp only [aP]
         refine sq (i := 22) rfl ?_
         try simp only [aP]
         refine tq (i := 23) rfl (v := ?v207) ?hy207 ?r207
         case hy207 => (intro w hSw; (try dsimp only at hSw); go_simp; try with_reducible rfl)
         try simp only [aP]
         refine tq (i := 24) rfl (v := ?v208) ?hy208 ?r208
         case hy208 => (intro w hSw; (try dsimp only at hSw); go_simp; try with_reducible rfl)
         try simp only [aP]
         refine sq (i := 25) rfl ?_
         try simp only [aP]
         refine sq (i := 26) rfl ?_
         try simp only [aP]
         refine sq (i := 27) rfl ?_
         try simp only [aP]
         refine sq (i := 28) rfl ?_
         try simp only [aP]
         refine tq (i := 29) rfl (v := ?v209) ?hy209 ?r209
         case hy209 => (intro w hSw; (try dsimp only at hSw); go_simp; try with_reducible rfl)
         try simp only [aP]
         refine wpAnyH_done (by kernel_rfl) ?_ _
         go_wp2_with fail
         go_meet
         case rel => exact ⟨true, by first | rfl | simp [*], fun _ => HF.out, (fun h => by cases h), HDG.out⟩
        have e2' : decide (9007199254740992 < gn) = false := decide_eq_false e2
        by_cases hk1 : 0 < k
        ·have hk1' : decide ((0 : Int) < (k : Int)) = true := decide_eq_true (by omega)
         obtain ⟨J, hJ⟩ : ∃ J, k = J + 1 := ⟨k - 1, by omega⟩
         have HJ : Hid (k = J + 1) := hJ
         have hJ1 : (k : Int) - 1 = (J : Int) := by omega
         have hJ2 : (J : Int) < (m : Int) := by omega
         have hJ0 : (0 : Int) ≤ (J : Int) := by omega
         have hJ3 : IntKind.i64.wrap ((k : Int) - 1) = (J : Int) := by rw [IntKind.wrap_i64]; omega
         have hJ4 : IntKind.i64.wrap (J : Int) = (J : Int) := by rw [IntKind.wrap_i64]; omega
         obtain ⟨y, hy⟩ : ∃ g, x.gens[J]? = some g := ⟨_, List.getElem?_eq_getElem (by rw [HE.out.2.2]; omega)⟩
         obtain ⟨gm, hgm⟩ : ∃ t, y.n = t := ⟨_, rfl⟩
         have HXJ : Hid (x.gens[J]? = some y) := hy
         have HGM : Hid (y.n = gm) := hgm
         have HCJ : Hid (∀ w' : World, Below W1.heap.size W1 w' → w'.heap[wr.heap.size]? = (wr.alloc (.cells #[.int .i64 gn, .string gp] 74)).heap[wr.heap.size]? → (w'.cell? ⟨wr.heap.size, 0, none⟩ = some (.int .i64 gn) ∧ w'.cell? ⟨wr.heap.size, 1, none⟩ = some (.string gp)) ∧ w'.cell? ⟨wo.heap.size, 2, none⟩ = some (.slice (some ⟨gb, go, none⟩) m c) ∧ w'.cell? ⟨gb, go + J * 2, none⟩ = some (.int .i64 gm)) := fun w' hb he => ⟨(HCG.out w' hb he).1, (HCG.out w' hb he).2, by
          have := HCH.out J y hy w' hb
          rwa [hgm] at this⟩
         clear hJ hy hgm
         by_cases hge : gn ≤ gm
         ·have hge' : decide (gn ≤ gm) = true := decide_eq_true hge
          have HF : Hid (psB ps = false) := HPF.out fun h => by have := h.asc J y g HXJ.out (HJ.out ▸ HXG.out); rw [HGM.out, HGE.out.1] at this; omega
          try go_wp2_with fail
          refine wp_region_held_drew (S := fun w' => (w'.cell? ⟨wr.heap.size, 0, none⟩ = some (.int .i64 gn) ∧ w'.cell? ⟨wr.heap.size, 1, none⟩ = some (.string gp)) ∧ w'.cell? ⟨wo.heap.size, 2, none⟩ = some (.slice (some ⟨gb, go, none⟩) m c) ∧ w'.cell? ⟨gb, go + J * 2, none⟩ = some (.int .i64 gm)) (by kernel_rfl) (HCJ.out _ HDG.out HDE.out) (fun hHeld => ?_)
          refine tq (i := 0) rfl (v := ?v210) ?hy210 ?r210
          case hy210 => (intro w hSw; (try dsimp only at hSw); go_simp; try with_reducible rfl)
          try simp only [aP]
          refine tq (i := 1) rfl (v := ?v211) ?hy211 ?r211
          case hy211 => (intro w hSw; (try dsimp only at hSw); go_simp; try with_reducible rfl)
          try simp only [aP]
          refine tq (i := 2) rfl (v := ?v212) ?hy212 ?r212
          case hy212 => (intro w hSw; (try dsimp only at hSw); go_simp; try with_reducible rfl)
          try simp only [aP]
          refine tq (i := 3) rfl (v := ?v213) ?hy213 ?r213
          case hy213 => (intro w hSw; (try dsimp only at hSw); go_simp; try with_reducible rfl)
          try simp only [aP]
          refine tq (i := 4) rfl (v := ?v214) ?hy214 ?r214
          case hy214 => (intro w hSw; (try dsimp only at hSw); go_simp; try with_reducible rfl)
          try simp only [aP]
          refine tq (i := 5) rfl (v := ?v215) ?hy215 ?r215
          case hy215 => (intro w hSw; (try dsimp only at hSw); go_simp; try with_reducible rfl)
          try simp only [aP]
          refine tq (i := 6) rfl (v := ?v216) ?hy216 ?r216
          case hy216 => (intro w hSw; (try dsimp only at hSw); go_simp; try with_reducible rfl)
          try simp only [aP]
          refine tq (i := 7) rfl (v := ?v217) ?hy217 ?r217
          case hy217 => (intro w hSw; (try dsimp only at hSw); go_simp; try with_reducible rfl)
          try simp only [aP]
          refine tq (i := 8) rfl (v := ?v218) ?hy218 ?r218
          case hy218 => (intro w hSw; (try dsimp only at hSw); go_simp; try with_reducible rfl)
          try simp only [aP]
          refine tq (i := 9) rfl (v := ?v219) ?hy219 ?r219
          case hy219 => (intro w hSw; (try dsimp only at hSw); go_simp; try with_reducible rfl)
          try simp only [aP]
          refine tq (i := 10) rfl (v := ?v220) ?hy220 ?r220
          case hy220 => (intro w hSw; (try dsimp only at hSw); go_simp; try with_reducible rfl)
          try simp only [aP]
          refine tq (i := 11) rfl (v := ?v221) ?hy221 ?r221
          case hy221 => (intro w hSw; (try dsimp only at hSw); go_simp; try with_reducible rfl)
          try simp only [aP]
          refine tq (i := 12) rfl (v := ?v222) ?hy222 ?r222
          case hy222 => (intro w hSw; (try dsimp only at hSw); go_simp; try with_reducible rfl)
          try simp only [aP]
          refine tq (i := 13) rfl (v := ?v223) ?hy223 ?r223
          case hy223 => (intro w hSw; (try dsimp only at hSw); go_simp; try with_reducible rfl)
          try simp only [aP]
          refine tq (i := 14) rfl (v := ?v224) ?hy224 ?r224
          case hy224 => (intro w hSw; (try dsimp only at hSw); go_simp; try with_reducible rfl)
          try simp only [aP]
          refine tq (i := 15) rfl (v := ?v225) ?hy225 ?r225
          case hy225 => (intro w hSw; (try dsimp only at hSw); go_simp; try with_reducible rfl)
          try simp only [aP]
          refine tq (i := 16) rfl (v := ?v226) ?hy226 ?r226
          case hy226 => (intro w hSw; (try dsimp only at hSw); go_simp; try with_reducible rfl)
          try simp only [aP]
          refine tq (i := 17) rfl (v := ?v227) ?hy227 ?r227
          case hy227 => (intro w hSw; (try dsimp only at hSw); go_simp; try with_reducible rfl)
          try simp only [aP]
          refine tq (i := 18) rfl (v := ?v228) ?hy228 ?r228
          case hy228 => (intro w hSw; (try dsimp only at hSw); go_simp; try with_reducible rfl)
          try simp only [aP]
          refine tq (i := 19) rfl (v := ?v229) ?hy229 ?r229
          case hy229 => (intro w hSw; (try dsimp only at hSw); go_simp; try with_reducible rfl)
          try simp only [aP]
          refine tq (i := 20) rfl (v := ?v230) ?hy230 ?r230
          case hy230 => (intro w hSw; (try dsimp only at hSw); go_simp; try with_reducible rfl)
          try simp only [aP]
          refine tq (i := 21) rfl (v := ?v231) ?hy231 ?r231
          case hy231 => (intro w hSw; (try dsimp only at hSw); go_simp; try with_reducible rfl)
          try simp only [aP]
          refine tq (i := 22) rfl (v := ?v232) ?hy232 ?r232
          case hy232 => (intro w hSw; (try dsimp only at hSw); go_simp; try with_reducible rfl)
          try simp only [aP]
          refine tq (i := 23) rfl (v := ?v233) ?hy233 ?r233
          case hy233 => (intro w hSw; (try dsimp only at hSw); go_simp; try with_reducible rfl)
          try simp only [aP]
          refine tq (i := 24) rfl (v := ?v234) ?hy234 ?r234
          case hy234 => (intro w hSw; (try dsimp only at hSw); go_simp; try with_reducible rfl)
          try simp only [aP]
          refine sq (i := 25) rfl ?_
          try simp only [aP]
          refine sq (i := 26) rfl ?_
          try simp only [aP]
          refine sq (i := 27) rfl ?_
          try simp only [aP]
          refine sq (i := 28) rfl ?_
          try simp only [aP]
          refine tq (i := 29) rfl (v := ?v235) ?hy235 ?r235
          case hy235 => (intro w hSw; (try dsimp only at hSw); go_simp; try with_reducible rfl)
          try simp only [aP]
          refine wpAnyH_done (by kernel_rfl) ?_ _
          go_wp2_with fail
          go_meet
          case rel => exact ⟨true, by first | rfl | simp [*], fun _ => HF.out, (fun h => by cases h), HDG.out⟩
         ·have hge' : decide (gn ≤ gm) = false := decide_eq_false hge
          have HLTJ : Hid (y.n < g.n) := by show _ < _; rw [HGM.out, HGE.out.1]; omega
          cases hap : wd.aokB gp with
          | false =>
           rw [hap] at HAD
           have HF : Hid (psB ps = false) := HPF.out fun h => by have := (h.gen k g HXG.out).2.2; rw [HGE.out.2, hap] at this; cases this
           clear hap
           try go_wp2_with fail
           refine wp_region_held_drew (S := fun w' => (w'.cell? ⟨wr.heap.size, 0, none⟩ = some (.int .i64 gn) ∧ w'.cell? ⟨wr.heap.size, 1, none⟩ = some (.string gp)) ∧ w'.cell? ⟨wo.heap.size, 2, none⟩ = some (.slice (some ⟨gb, go, none⟩) m c) ∧ w'.cell? ⟨gb, go + J * 2, none⟩ = some (.int .i64 gm)) (by kernel_rfl) (HCJ.out _ HDG.out HDE.out) (fun hHeld => ?_)
           refine tq (i := 0) rfl (v := ?v236) ?hy236 ?r236
           case hy236 => (intro w hSw; (try dsimp only at hSw); go_simp; try with_reducible rfl)
           try simp only [aP]
           refine tq (i := 1) rfl (v := ?v237) ?hy237 ?r237
           case hy237 => (intro w hSw; (try dsimp only at hSw); go_simp; try with_reducible rfl)
           try simp only [aP]
           refine tq (i := 2) rfl (v := ?v238) ?hy238 ?r238
           case hy238 => (intro w hSw; (try dsimp only at hSw); go_simp; try with_reducible rfl)
           try simp only [aP]
           refine tq (i := 3) rfl (v := ?v239) ?hy239 ?r239
           case hy239 => (intro w hSw; (try dsimp only at hSw); go_simp; try with_reducible rfl)
           try simp only [aP]
           refine tq (i := 4) rfl (v := ?v240) ?hy240 ?r240
           case hy240 => (intro w hSw; (try dsimp only at hSw); go_simp; try with_reducible rfl)
           try simp only [aP]
           refine tq (i := 5) rfl (v := ?v241) ?hy241 ?r241
           case hy241 => (intro w hSw; (try dsimp only at hSw); go_simp; try with_reducible rfl)
           try simp only [aP]
           refine tq (i := 6) rfl (v := ?v242) ?hy242 ?r242
           case hy242 => (intro w hSw; (try dsimp only at hSw); go_simp; try with_reducible rfl)
           try simp only [aP]
           refine tq (i := 7) rfl (v := ?v243) ?hy243 ?r243
           case hy243 => (intro w hSw; (try dsimp only at hSw); go_simp; try with_reducible rfl)
           try simp only [aP]
           refine tq (i := 8) rfl (v := ?v244) ?hy244 ?r244
           case hy244 => (intro w hSw; (try dsimp only at hSw); go_simp; try with_reducible rfl)
           try simp only [aP]
           refine tq (i := 9) rfl (v := ?v245) ?hy245 ?r245
           case hy245 => (intro w hSw; (try dsimp only at hSw); go_simp; try with_reducible rfl)
           try simp only [aP]
           refine tq (i := 10) rfl (v := ?v246) ?hy246 ?r246
           case hy246 => (intro w hSw; (try dsimp only at hSw); go_simp; try with_reducible rfl)
           try simp only [aP]
           refine tq (i := 11) rfl (v := ?v247) ?hy247 ?r247
           case hy247 => (intro w hSw; (try dsimp only at hSw); go_simp; try with_reducible rfl)
           try simp only [aP]
           refine tq (i := 12) rfl (v := ?v248) ?hy248 ?r248
           case hy248 => (intro w hSw; (try dsimp only at hSw); go_simp; try with_reducible rfl)
           try simp only [aP]
           refine tq (i := 13) rfl (v := ?v249) ?hy249 ?r249
           case hy249 => (intro w hSw; (try dsimp only at hSw); go_simp; try with_reducible rfl)
           try simp only [aP]
           refine tq (i := 14) rfl (v := ?v250) ?hy250 ?r250
           case hy250 => (intro w hSw; (try dsimp only at hSw); go_simp; try with_reducible rfl)
           try simp only [aP]
           refine tq (i := 15) rfl (v := ?v251) ?hy251 ?r251
           case hy251 => (intro w hSw; (try dsimp only at hSw); go_simp; try with_reducible rfl)
           try simp only [aP]
           refine tq (i := 16) rfl (v := ?v252) ?hy252 ?r252
           case hy252 => (intro w hSw; (try dsimp only at hSw); go_simp; try with_reducible rfl)
           try simp only [aP]
           refine tq (i := 17) rfl (v := ?v253) ?hy253 ?r253
           case hy253 => (intro w hSw; (try dsimp only at hSw); go_simp; try with_reducible rfl)
           try simp only [aP]
           refine tq (i := 18) rfl (v := ?v254) ?hy254 ?r254
           case hy254 => (intro w hSw; (try dsimp only at hSw); go_simp; try with_reducible rfl)
           try simp only [aP]
           refine tq (i := 19) rfl (v := ?v255) ?hy255 ?r255
           case hy255 => (intro w hSw; (try dsimp only at hSw); go_simp; try with_reducible rfl)
           try simp only [aP]
           refine tq (i := 20) rfl (v := ?v256) ?hy256 ?r256
           case hy256 => (intro w hSw; (try dsimp only at hSw); go_simp; try with_reducible rfl)
           try simp only [aP]
           refine tq (i := 21) rfl (v := ?v257) ?hy257 ?r257
           case hy257 => (intro w hSw; (try dsimp only at hSw); go_simp; try with_reducible rfl)
           try simp only [aP]
           refine tq (i := 22) rfl (v := ?v258) ?hy258 ?r258
           case hy258 => (intro w hSw; (try dsimp only at hSw); go_simp; try with_reducible rfl)
           try simp only [aP]
           refine tq (i := 23) rfl (v := ?v259) ?hy259 ?r259
           case hy259 => (intro w hSw; (try dsimp only at hSw); go_simp; try with_reducible rfl)
           try simp only [aP]
           refine tq (i := 24) rfl (v := ?v260) ?hy260 ?r260
           case hy260 => (intro w hSw; (try dsimp only at hSw); go_simp; try with_reducible rfl)
           try simp only [aP]
           refine tq (i := 25) rfl (v := ?v261) ?hy261 ?r261
           case hy261 => (intro w hSw; (try dsimp only at hSw); go_simp; try with_reducible rfl)
           try simp only [aP]
           refine tq (i := 26) rfl (v := ?v262) ?hy262 ?r262
           case hy262 => (intro w hSw; (try dsimp only at hSw); go_simp; try with_reducible rfl)
           try simp only [aP]
           refine wpAnyH_ready (rs := [27]) (by kernel_rfl) (by simp) ?_
           refine cq rfl (fun K hK => ?_) AllReadyH.nil
           go_simp
           (go_at_call 35; refine (HAD.out _).mono ?_; rintro e w5 ⟨rfl, rfl⟩)
           try go_wp2_with fail
           refine hK.out _ _ (HCJ.out _ HDG.out HDE.out) (fun hHeld => ?_)
           clear hK K
           try simp only [aP]
           refine tq (i := 28) rfl (v := ?v263) ?hy263 ?r263
           case hy263 => (intro w hSw; (try dsimp only at hSw); go_simp; try with_reducible rfl)
           try simp only [aP]
           refine tq (i := 29) rfl (v := ?v264) ?hy264 ?r264
           case hy264 => (intro w hSw; (try dsimp only at hSw); go_simp; try with_reducible rfl)
           try simp only [aP]
           refine wpAnyH_done (by kernel_rfl) ?_ _
           go_wp2_with fail
           go_meet
           case rel => exact ⟨true, by first | rfl | simp [*], fun _ => HF.out, (fun h => by cases h), HDG.out⟩
          | true =>
           rw [hap] at HAD
           have HN1 : Hid (GOk g) := by
            obtain ⟨r1, r2⟩ := HGE.out
            show GOk g
            unfold GOk
            rw [r1, r2]
            exact ⟨by omega, by omega, hap⟩
           have HN2 : Hid (AdjG (x.gens.take (k + 1))) := adjG_next HADJ.out HJ.out HXJ.out (HJ.out ▸ HXG.out) HLTJ.out
           clear hap
           try go_wp2_with fail
           refine wp_region_held_drew (S := fun w' => (w'.cell? ⟨wr.heap.size, 0, none⟩ = some (.int .i64 gn) ∧ w'.cell? ⟨wr.heap.size, 1, none⟩ = some (.string gp)) ∧ w'.cell? ⟨wo.heap.size, 2, none⟩ = some (.slice (some ⟨gb, go, none⟩) m c) ∧ w'.cell? ⟨gb, go + J * 2, none⟩ = some (.int .i64 gm)) (by kernel_rfl) (HCJ.out _ HDG.out HDE.out) (fun hHeld => ?_)
           refine tq (i := 0) rfl (v := ?v265) ?hy265 ?r265
           case hy265 => (intro w hSw; (try dsimp only at hSw); go_simp; try with_reducible rfl)
           try simp only [aP]
           refine tq (i := 1) rfl (v := ?v266) ?hy266 ?r266
           case hy266 => (intro w hSw; (try dsimp only at hSw); go_simp; try with_reducible rfl)
           try simp only [aP]
           refine tq (i := 2) rfl (v := ?v267) ?hy267 ?r267
           case hy267 => (intro w hSw; (try dsimp only at hSw); go_simp; try with_reducible rfl)
           try simp only [aP]
           refine tq (i := 3) rfl (v := ?v268) ?hy268 ?r268
           case hy268 => (intro w hSw; (try dsimp only at hSw); go_simp; try with_reducible rfl)
           try simp only [aP]
           refine tq (i := 4) rfl (v := ?v269) ?hy269 ?r269
           case hy269 => (intro w hSw; (try dsimp only at hSw); go_simp; try with_reducible rfl)
           try simp only [aP]
           refine tq (i := 5) rfl (v := ?v270) ?hy270 ?r270
           case hy270 => (intro w hSw; (try dsimp only at hSw); go_simp; try with_reducible rfl)
           try simp only [aP]
           refine tq (i := 6) rfl (v := ?v271) ?hy271 ?r271
           case hy271 => (intro w hSw; (try dsimp only at hSw); go_simp; try with_reducible rfl)
           try simp only [aP]
           refine tq (i := 7) rfl (v := ?v272) ?hy272 ?r272
           case hy272 => (intro w hSw; (try dsimp only at hSw); go_simp; try with_reducible rfl)
           try simp only [aP]
           refine tq (i := 8) rfl (v := ?v273) ?hy273 ?r273
           case hy273 => (intro w hSw; (try dsimp only at hSw); go_simp; try with_reducible rfl)
           try simp only [aP]
           refine tq (i := 9) rfl (v := ?v274) ?hy274 ?r274
           case hy274 => (intro w hSw; (try dsimp only at hSw); go_simp; try with_reducible rfl)
           try simp only [aP]
           refine tq (i := 10) rfl (v := ?v275) ?hy275 ?r275
           case hy275 => (intro w hSw; (try dsimp only at hSw); go_simp; try with_reducible rfl)
           try simp only [aP]
           refine tq (i := 11) rfl (v := ?v276) ?hy276 ?r276
           case hy276 => (intro w hSw; (try dsimp only at hSw); go_simp; try with_reducible rfl)
           try simp only [aP]
           refine tq (i := 12) rfl (v := ?v277) ?hy277 ?r277
           case hy277 => (intro w hSw; (try dsimp only at hSw); go_simp; try with_reducible rfl)
           try simp only [aP]
           refine tq (i := 13) rfl (v := ?v278) ?hy278 ?r278
           case hy278 => (intro w hSw; (try dsimp only at hSw); go_simp; try with_reducible rfl)
           try simp only [aP]
           refine tq (i := 14) rfl (v := ?v279) ?hy279 ?r279
           case hy279 => (intro w hSw; (try dsimp only at hSw); go_simp; try with_reducible rfl)
           try simp only [aP]
           refine tq (i := 15) rfl (v := ?v280) ?hy280 ?r280
           case hy280 => (intro w hSw; (try dsimp only at hSw); go_simp; try with_reducible rfl)
           try simp only [aP]
           refine tq (i := 16) rfl (v := ?v281) ?hy281 ?r281
           case hy281 => (intro w hSw; (try dsimp only at hSw); go_simp; try with_reducible rfl)
           try simp only [aP]
           refine tq (i := 17) rfl (v := ?v282) ?hy282 ?r282
           case hy282 => (intro w hSw; (try dsimp only at hSw); go_simp; try with_reducible rfl)
           try simp only [aP]
           refine tq (i := 18) rfl (v := ?v283) ?hy283 ?r283
           case hy283 => (intro w hSw; (try dsimp only at hSw); go_simp; try with_reducible rfl)
           try simp only [aP]
           refine tq (i := 19) rfl (v := ?v284) ?hy284 ?r284
           case hy284 => (intro w hSw; (try dsimp only at hSw); go_simp; try with_reducible rfl)
           try simp only [aP]
           refine tq (i := 20) rfl (v := ?v285) ?hy285 ?r285
           case hy285 => (intro w hSw; (try dsimp only at hSw); go_simp; try with_reducible rfl)
           try simp only [aP]
           refine tq (i := 21) rfl (v := ?v286) ?hy286 ?r286
           case hy286 => (intro w hSw; (try dsimp only at hSw); go_simp; try with_reducible rfl)
           try simp only [aP]
           refine tq (i := 22) rfl (v := ?v287) ?hy287 ?r287
           case hy287 => (intro w hSw; (try dsimp only at hSw); go_simp; try with_reducible rfl)
           try simp only [aP]
           refine tq (i := 23) rfl (v := ?v288) ?hy288 ?r288
           case hy288 => (intro w hSw; (try dsimp only at hSw); go_simp; try with_reducible rfl)
           try simp only [aP]
           refine tq (i := 24) rfl (v := ?v289) ?hy289 ?r289
           case hy289 => (intro w hSw; (try dsimp only at hSw); go_simp; try with_reducible rfl)
           try simp only [aP]
           refine tq (i := 25) rfl (v := ?v290) ?hy290 ?r290
           case hy290 => (intro w hSw; (try dsimp only at hSw); go_simp; try with_reducible rfl)
           try simp only [aP]
           refine tq (i := 26) rfl (v := ?v291) ?hy291 ?r291
           case hy291 => (intro w hSw; (try dsimp only at hSw); go_simp; try with_reducible rfl)
           try simp only [aP]
           refine wpAnyH_ready (rs := [27]) (by kernel_rfl) (by simp) ?_
           refine cq rfl (fun K hK => ?_) AllReadyH.nil
           go_simp
           (go_at_call 35; refine (HAD.out _).mono ?_; rintro e w5 ⟨rfl, rfl⟩)
           try go_wp2_with fail
           refine hK.out _ _ (HCJ.out _ HDG.out HDE.out) (fun hHeld => ?_)
           clear hK K
           try simp only [aP]
           refine tq (i := 28) rfl (v := ?v292) ?hy292 ?r292
           case hy292 => (intro w hSw; (try dsimp only at hSw); go_simp; try with_reducible rfl)
           try simp only [aP]
           refine tq (i := 29) rfl (v := ?v293) ?hy293 ?r293
           case hy293 => (intro w hSw; (try dsimp only at hSw); go_simp; try with_reducible rfl)
           try simp only [aP]
           refine wpAnyH_done (by kernel_rfl) ?_ _
           go_wp2_with fail
           go_meet
           case rel => exact ⟨false, by first | rfl | simp [*], (fun h => by cases h), fun _ => ⟨HN1.out, HN2.out⟩, HDG.out⟩
        ·have hk1' : decide ((0 : Int) < (k : Int)) = false := decide_eq_false (by omega)
         have HA0 : Hid (AdjG (x.gens.take (k + 1))) := fun j y y' hx hy => by
          have := (List.getElem?_eq_some_iff.1 hy).1
          simp at this
          omega
         cases hap : wd.aokB gp with
         | false =>
          rw [hap] at HAD
          have HF : Hid (psB ps = false) := HPF.out fun h => by have := (h.gen k g HXG.out).2.2; rw [HGE.out.2, hap] at this; cases this
          clear hap
          try go_wp2_with fail
          refine wp_region_held_drew (S := fun w' => (w'.cell? ⟨wr.heap.size, 0, none⟩ = some (.int .i64 gn) ∧ w'.cell? ⟨wr.heap.size, 1, none⟩ = some (.string gp)) ∧ w'.cell? ⟨wo.heap.size, 2, none⟩ = some (.slice (some ⟨gb, go, none⟩) m c)) (by kernel_rfl) (HCG.out _ HDG.out HDE.out) (fun hHeld => ?_)
          refine tq (i := 0) rfl (v := ?v294) ?hy294 ?r294
          case hy294 => (intro w hSw; (try dsimp only at hSw); go_simp; try with_reducible rfl)
          try simp only [aP]
          refine tq (i := 1) rfl (v := ?v295) ?hy295 ?r295
          case hy295 => (intro w hSw; (try dsimp only at hSw); go_simp; try with_reducible rfl)
          try simp only [aP]
          refine tq (i := 2) rfl (v := ?v296) ?hy296 ?r296
          case hy296 => (intro w hSw; (try dsimp only at hSw); go_simp; try with_reducible rfl)
          try simp only [aP]
          refine tq (i := 3) rfl (v := ?v297) ?hy297 ?r297
          case hy297 => (intro w hSw; (try dsimp only at hSw); go_simp; try with_reducible rfl)
          try simp only [aP]
          refine tq (i := 4) rfl (v := ?v298) ?hy298 ?r298
          case hy298 => (intro w hSw; (try dsimp only at hSw); go_simp; try with_reducible rfl)
          try simp only [aP]
          refine tq (i := 5) rfl (v := ?v299) ?hy299 ?r299
          case hy299 => (intro w hSw; (try dsimp only at hSw); go_simp; try with_reducible rfl)
          try simp only [aP]
          refine tq (i := 6) rfl (v := ?v300) ?hy300 ?r300
          case hy300 => (intro w hSw; (try dsimp only at hSw); go_simp; try with_reducible rfl)
          try simp only [aP]
          refine tq (i := 7) rfl (v := ?v301) ?hy301 ?r301
          case hy301 => (intro w hSw; (try dsimp only at hSw); go_simp; try with_reducible rfl)
          try simp only [aP]
          refine tq (i := 8) rfl (v := ?v302) ?hy302 ?r302
          case hy302 => (intro w hSw; (try dsimp only at hSw); go_simp; try with_reducible rfl)
          try simp only [aP]
          refine tq (i := 9) rfl (v := ?v303) ?hy303 ?r303
          case hy303 => (intro w hSw; (try dsimp only at hSw); go_simp; try with_reducible rfl)
          try simp only [aP]
          refine tq (i := 10) rfl (v := ?v304) ?hy304 ?r304
          case hy304 => (intro w hSw; (try dsimp only at hSw); go_simp; try with_reducible rfl)
          try simp only [aP]
          refine tq (i := 11) rfl (v := ?v305) ?hy305 ?r305
          case hy305 => (intro w hSw; (try dsimp only at hSw); go_simp; try with_reducible rfl)
          try simp only [aP]
          refine sq (i := 12) rfl ?_
          try simp only [aP]
          refine sq (i := 13) rfl ?_
          try simp only [aP]
          refine sq (i := 14) rfl ?_
          try simp only [aP]
          refine sq (i := 15) rfl ?_
          try simp only [aP]
          refine sq (i := 16) rfl ?_
          try simp only [aP]
          refine sq (i := 17) rfl ?_
          try simp only [aP]
          refine sq (i := 18) rfl ?_
          try simp only [aP]
          refine sq (i := 19) rfl ?_
          try simp only [aP]
          refine sq (i := 20) rfl ?_
          try simp only [aP]
          refine sq (i := 21) rfl ?_
          try simp only [aP]
          refine tq (i := 22) rfl (v := ?v306) ?hy306 ?r306
          case hy306 => (intro w hSw; (try dsimp only at hSw); go_simp; try with_reducible rfl)
          try simp only [aP]
          refine tq (i := 23) rfl (v := ?v307) ?hy307 ?r307
          case hy307 => (intro w hSw; (try dsimp only at hSw); go_simp; try with_reducible rfl)
          try simp only [aP]
          refine tq (i := 24) rfl (v := ?v308) ?hy308 ?r308
          case hy308 => (intro w hSw; (try dsimp only at hSw); go_simp; try with_reducible rfl)
          try simp only [aP]
          refine tq (i := 25) rfl (v := ?v309) ?hy309 ?r309
          case hy309 => (intro w hSw; (try dsimp only at hSw); go_simp; try with_reducible rfl)
          try simp only [aP]
          refine tq (i := 26) rfl (v := ?v310) ?hy310 ?r310
          case hy310 => (intro w hSw; (try dsimp only at hSw); go_simp; try with_reducible rfl)
          try simp only [aP]
          refine wpAnyH_ready (rs := [27]) (by kernel_rfl) (by simp) ?_
          refine cq rfl (fun K hK => ?_) AllReadyH.nil
          go_simp
          (go_at_call 35; refine (HAD.out _).mono ?_; rintro e w5 ⟨rfl, rfl⟩)
          try go_wp2_with fail
          refine hK.out _ _ (HCG.out _ HDG.out HDE.out) (fun hHeld => ?_)
          clear hK K
          try simp only [aP]
          refine tq (i := 28) rfl (v := ?v311) ?hy311 ?r311
          case hy311 => (intro w hSw; (try dsimp only at hSw); go_simp; try with_reducible rfl)
          try simp only [aP]
          refine tq (i := 29) rfl (v := ?v312) ?hy312 ?r312
          case hy312 => (intro w hSw; (try dsimp only at hSw); go_simp; try with_reducible rfl)
          try simp only [aP]
          refine wpAnyH_done (by kernel_rfl) ?_ _
          go_wp2_with fail
          go_meet
          case rel => exact ⟨true, by first | rfl | simp [*], fun _ => HF.out, (fun h => by cases h), HDG.out⟩
         | true =>
          rw [hap] at HAD
          have HN1 : Hid (GOk g) := by
           obtain ⟨r1, r2⟩ := HGE.out
           show GOk g
           unfold GOk
           rw [r1, r2]
           exact ⟨by omega, by omega, hap⟩
          have HN2 : Hid (AdjG (x.gens.take (k + 1))) := HA0.out
          clear hap
          try go_wp2_with fail
          refine wp_region_held_drew (S := fun w' => (w'.cell? ⟨wr.heap.size, 0, none⟩ = some (.int .i64 gn) ∧ w'.cell? ⟨wr.heap.size, 1, none⟩ = some (.string gp)) ∧ w'.cell? ⟨wo.heap.size, 2, none⟩ = some (.slice (some ⟨gb, go, none⟩) m c)) (by kernel_rfl) (HCG.out _ HDG.out HDE.out) (fun hHeld => ?_)
          refine tq (i := 0) rfl (v := ?v313) ?hy313 ?r313
          case hy313 => (intro w hSw; (try dsimp only at hSw); go_simp; try with_reducible rfl)
          try simp only [aP]
          refine tq (i := 1) rfl (v := ?v314) ?hy314 ?r314
          case hy314 => (intro w hSw; (try dsimp only at hSw); go_simp; try with_reducible rfl)
          try simp only [aP]
          refine tq (i := 2) rfl (v := ?v315) ?hy315 ?r315
          case hy315 => (intro w hSw; (try dsimp only at hSw); go_simp; try with_reducible rfl)
          try simp only [aP]
          refine tq (i := 3) rfl (v := ?v316) ?hy316 ?r316
          case hy316 => (intro w hSw; (try dsimp only at hSw); go_simp; try with_reducible rfl)
          try simp only [aP]
          refine tq (i := 4) rfl (v := ?v317) ?hy317 ?r317
          case hy317 => (intro w hSw; (try dsimp only at hSw); go_simp; try with_reducible rfl)
          try simp only [aP]
          refine tq (i := 5) rfl (v := ?v318) ?hy318 ?r318
          case hy318 => (intro w hSw; (try dsimp only at hSw); go_simp; try with_reducible rfl)
          try simp only [aP]
          refine tq (i := 6) rfl (v := ?v319) ?hy319 ?r319
          case hy319 => (intro w hSw; (try dsimp only at hSw); go_simp; try with_reducible rfl)
          try simp only [aP]
          refine tq (i := 7) rfl (v := ?v320) ?hy320 ?r320
          case hy320 => (intro w hSw; (try dsimp only at hSw); go_simp; try with_reducible rfl)
          try simp only [aP]
          refine tq (i := 8) rfl (v := ?v321) ?hy321 ?r321
          case hy321 => (intro w hSw; (try dsimp only at hSw); go_simp; try with_reducible rfl)
          try simp only [aP]
          refine tq (i := 9) rfl (v := ?v322) ?hy322 ?r322
          case hy322 => (intro w hSw; (try dsimp only at hSw); go_simp; try with_reducible rfl)
          try simp only [aP]
          refine tq (i := 10) rfl (v := ?v323) ?hy323 ?r323
          case hy323 => (intro w hSw; (try dsimp only at hSw); go_simp; try with_reducible rfl)
          try simp only [aP]
          refine tq (i := 11) rfl (v := ?v324) ?hy324 ?r324
          case hy324 => (intro w hSw; (try dsimp only at hSw); go_simp; try with_reducible rfl)
          try simp only [aP]
          refine sq (i := 12) rfl ?_
          try simp only [aP]
          refine sq (i := 13) rfl ?_
          try simp only [aP]
          refine sq (i := 14) rfl ?_
          try simp only [aP]
          refine sq (i := 15) rfl ?_
          try simp only [aP]
          refine sq (i := 16) rfl ?_
          try simp only [aP]
          refine sq (i := 17) rfl ?_
          try simp only [aP]
          refine sq (i := 18) rfl ?_
          try simp only [aP]
          refine sq (i := 19) rfl ?_
          try simp only [aP]
          refine sq (i := 20) rfl ?_
          try simp only [aP]
          refine sq (i := 21) rfl ?_
          try simp only [aP]
          refine tq (i := 22) rfl (v := ?v325) ?hy325 ?r325
          case hy325 => (intro w hSw; (try dsimp only at hSw); go_simp; try with_reducible rfl)
          try simp only [aP]
          refine tq (i := 23) rfl (v := ?v326) ?hy326 ?r326
          case hy326 => (intro w hSw; (try dsimp only at hSw); go_simp; try with_reducible rfl)
          try simp only [aP]
          refine tq (i := 24) rfl (v := ?v327) ?hy327 ?r327
          case hy327 => (intro w hSw; (try dsimp only at hSw); go_simp; try with_reducible rfl)
          try simp only [aP]
          refine tq (i := 25) rfl (v := ?v328) ?hy328 ?r328
          case hy328 => (intro w hSw; (try dsimp only at hSw); go_simp; try with_reducible rfl)
          try simp only [aP]
          refine tq (i := 26) rfl (v := ?v329) ?hy329 ?r329
          case hy329 => (intro w hSw; (try dsimp only at hSw); go_simp; try with_reducible rfl)
          try simp only [aP]
          refine wpAnyH_ready (rs := [27]) (by kernel_rfl) (by simp) ?_
          refine cq rfl (fun K hK => ?_) AllReadyH.nil
          go_simp
          (go_at_call 35; refine (HAD.out _).mono ?_; rintro e w5 ⟨rfl, rfl⟩)
          try go_wp2_with fail
          refine hK.out _ _ (HCG.out _ HDG.out HDE.out) (fun hHeld => ?_)
          clear hK K
          try simp only [aP]
          refine tq (i := 28) rfl (v := ?v330) ?hy330 ?r330
          case hy330 => (intro w hSw; (try dsimp only at hSw); go_simp; try with_reducible rfl)
          try simp only [aP]
          refine tq (i := 29) rfl (v := ?v331) ?hy331 ?r331
          case hy331 => (intro w hSw; (try dsimp only at hSw); go_simp; try with_reducible rfl)
          try simp only [aP]
          refine wpAnyH_done (by kernel_rfl) ?_ _
          go_wp2_with fail
          go_meet
          case rel => exact ⟨false, by first | rfl | simp [*], (fun h => by cases h), fun _ => ⟨HN1.out, HN2.out⟩, HDG.out⟩
       case rest =>
        obtain ⟨bd, rfl, ht, hf, hbc⟩ := hcut
        have HBC2 : Hid (Below W1.heap.size W1 wc) := hbc
        have HBW2 : Hid (Below w.heap.size w wc) := HB1.out.trans (hbc.mono HB1.out.size)
        cases bd with
        | true =>
         have HF : Hid (psB ps = false) := ht rfl
         clear ht hf hbc
         go_wp2
         go_ret
         exact ⟨by rw [HF.out]; first | done | rfl, HBW2.out⟩
        | false =>
         obtain ⟨hgo, han⟩ := hf rfl
         have HN1 : Hid (∀ (j : Nat) (y : Gn), j < k + 1 → x.gens[j]? = some y → GOk y) := fun j y hj hy => by
          rcases Nat.lt_or_ge j k with h | h
          ·exact HOK.out j y h hy
          ·obtain rfl : j = k := by omega
           rw [HXG.out] at hy
           cases hy
           exact hgo
         have HN2 : Hid (AdjG (x.gens.take (k + 1))) := han
         clear ht hf hgo han hbc
         go_wp2
         go_roundw
         case rel => exact ⟨k + 1, by omega, by go_num, HN1.out, HN2.out, HBC2.out⟩
         case measure => simp [intOf] <;> omega
      ·have hkm' : ¬ (k : Int) < (m : Int) := by omega
       have HPO : Hid (POk x) := ⟨by rw [HE.out.1]; exact HNM.out, by rw [HE.out.2.2]; exact hm5, by
        have h := HADJ.out
        rwa [List.take_of_length_le (by rw [HE.out.2.2]; omega)] at h, fun i g hg => HOK.out i g (by have := (List.getElem?_eq_some_iff.1 hg).1; have := HE.out.2.2; omega) hg, by rw [HE.out.2.1, HR.out]; exact HZR.out⟩
       have HN1 : Hid (∀ (j : Nat) (y : Pr), j < i + 1 → ps[j]? = some y → POk y) := fun j y hj hy => by
        rcases Nat.lt_or_ge j i with h | h
        ·exact HEA.out j y h hy
        ·obtain rfl : j = i := by omega
         rw [HX.out] at hy
         cases hy
         exact HPO.out
       go_wp2
       go_roundw
       case rel => exact ⟨i + 1, by omega, by go_num, HN1.out, HAN.out, HB1.out.trans (HB2.out.mono HB1.out.size)⟩
       case measure => simp [intOf] <;> omega
  ·have hil' : ¬ (i : Int) < (n : Int) := by omega
   have HT : Hid (psB ps = true) := psB_yes ⟨by rw [HNN.out]; omega, by
    have h := HAP.out
    rwa [List.take_of_length_le (by rw [HNN.out]; omega)] at h, fun j y hy => HEA.out j y (by have := (List.getElem?_eq_some_iff.1 hy).1; have := HNN.out; omega) hy⟩
   clear hbel
   go_wp2
   go_ret
   exact ⟨by rw [HT.out]; first | done | rfl, HBE.out⟩
end Go.Proofs.YtpfnnjfapcnbnaaGreatDoor.pf
