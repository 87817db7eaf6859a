import Derived.Test.YtcpmgellfaeejaaGreatDoorG01
import Derived.Test.YtcpmgellfaeejaaGreatDoorG02
import Derived.Deep.RegionHeld3
namespace Go.Proofs.YtcpmgellfaeejaaGreatDoor.tt
open Go.ChangeShapes Go.WideShapes Go.ChangeAt Go.RowKit Go.Deep
set_option linter.unusedVariables false
set_option linter.unusedSimpArgs false
set_option maxHeartbeats 8000000 in
set_option maxRecDepth 100000 in
theorem stree_any (E : Nat → En) (b o n cap : Nat) (w : World) (hR : EnR w b o n E) (hS : SmE n E) (hn : n ≤ 1048576) (hcap : n ≤ cap) (hcm : cap ≤ maxLen) :
  Calls Tryz.prog 35 #[.slice (some ⟨b, o, none⟩) n cap] w fun e w' => e = .returned (.bool (treeB E n)) ∧ Below w.heap.size w w' := by
 unfold maxLen at hcm
 by_cases h5 : 500 < n
 ·have h5' : (500 : Int) < (n : Int) := by omega
  have HF : Hid (¬ (n ≤ 500 ∧ Tr E n)) := fun h => by omega
  clear hR hS
  go_enter Tryz.func35, Tryz.ntmps35
  go_wp2
  go_ret
  exact ⟨by rw [treeB_no HF.out]; first | done | rfl, Below.refl _ _⟩
 have h5' : ¬ (500 : Int) < (n : Int) := by omega
 have HER : Hid (EnR w b o n E) := hR
 have HSM : Hid (SmE n E) := hS
 clear hR hS
 go_enter Tryz.func35, Tryz.ntmps35
 go_wp2
 go_loopw [3] (fun x wr => ∃ i : Nat, i ≤ n ∧ x = .int .i64 (i : Int) ∧ Tr E i ∧ Below w.heap.size w wr) (fun x _ => n - (intOf x).toNat)
 case atStart => exact ⟨0, Nat.zero_le _, rfl, Tr.zero E, Below.refl _ _⟩
 case round =>
  obtain ⟨i, hi, rfl, htr, hbel⟩ := hrel
  have HTR : Hid (Tr E i) := htr
  have HBE : Hid (Below w.heap.size w wr) := hbel
  clear htr
  by_cases hil : i < n
  ·have hil' : (i : Int) < (n : Int) := by omega
   have hi0 : (0 : Int) ≤ (i : Int) := by omega
   have hic : (i : Int) ≤ (cap : Int) := by omega
   have hsm := HSM.out i hil
   obtain ⟨P, hP⟩ : ∃ P, (E i).path = P := ⟨_, rfl⟩
   obtain ⟨k, hk⟩ : ∃ k, (E i).kind = k := ⟨_, rfl⟩
   obtain ⟨d, hd⟩ : ∃ d, (E i).data = d := ⟨_, rfl⟩
   obtain ⟨x, hx⟩ : ∃ x, (E i).exec = x := ⟨_, rfl⟩
   have HCI : Hid (∀ w' : World, Below w.heap.size w w' → w'.cell? ⟨b, o + i * 4, none⟩ = some (.string P) ∧ w'.cell? ⟨b, o + i * 4 + 1, none⟩ = some (.int .i64 k) ∧ w'.cell? ⟨b, o + i * 4 + 2, none⟩ = some (.string d) ∧ w'.cell? ⟨b, o + i * 4 + 3, none⟩ = some (.bool x)) := fun w' hb => by
    obtain ⟨q0, q1, q2, q3⟩ := (HER.out i hil).below hb
    rw [hP] at q0
    rw [hk] at q1
    rw [hd] at q2
    rw [hx] at q3
    exact ⟨q0, q1, q2, q3⟩
   have hpi : pth E i = P.data.toList := by unfold pth; rw [hP]
   have HPI : Hid (pth E i = P.data.toList) := hpi
   have HEN : Hid (∀ W, Calls Tryz.prog 73 #[.agg #[.string P, .int .i64 k, .string d, .bool x]] W fun r w' => r = .returned (.bool (eOk (E i))) ∧ Below W.heap.size W w') := fun W => by
    have := entry_any (E i) hsm.1 hsm.2 W
    unfold eV at this
    rwa [hP, hk, hd, hx] at this
   obtain ⟨U, hU⟩ : ∃ U : ByteArray, (⟨(up P.data.toList).toArray⟩ : ByteArray) = U := ⟨_, rfl⟩
   have HUP : Hid (∀ W, Calls Tryz.prog 74 #[.string P] W fun e w' => e = .returned (.string U) ∧ Below W.heap.size W w') := fun W => by
    have := up_any P (by rw [← hP]; exact hsm.1) W
    rwa [hU] at this
   have hUl : U.data.toList = up (pth E i) := by rw [← hU, hpi]
   have HUE : Hid (U.toList.isEmpty = true ↔ up (pth E i) = []) := by
    show _ ↔ _
    rw [ByteArray.toList_eq, hUl]
    simp
   have HDR : Hid (∀ W, Below w.heap.size w W → Calls Tryz.prog 75 #[.slice (some ⟨b, o, none⟩) i cap, .string U] W fun e w' => e = .returned (.bool (dirB E i (up (pth E i)))) ∧ Below W.heap.size W w') := fun W hb => by
    have := dir_any E b o i cap U W (fun j hj => (HER.out j (by omega)).below hb) HTR.out.asc (by omega) (by omega)
    rwa [hUl] at this
   obtain ⟨c0, c1, c2, c3⟩ := HCI.out wr hbel
   clear hbel hP hk hd hx hpi hU hUl hsm
   cases heo : eOk (E i) with
   | false =>
    rw [heo] at HEN
    have HF : Hid (¬ Tr E n) := fun h => by have := h.1 i hil; rw [heo] at this; cases this
    clear heo
    go_wp2_with fail
    refine wp_region_held_drew (S := fun w' => w'.cell? ⟨b, o + i * 4, none⟩ = some (.string P) ∧ w'.cell? ⟨b, o + i * 4 + 1, none⟩ = some (.int .i64 k) ∧ w'.cell? ⟨b, o + i * 4 + 2, none⟩ = some (.string d) ∧ w'.cell? ⟨b, o + i * 4 + 3, none⟩ = some (.bool x)) (by kernel_rfl) (HCI.out _ (HBE.out.drew)) (fun hHeld => ?_)
    refine tq (i := 0) rfl (v := ?v1) ?hy1 ?r1
    case hy1 => (intro w hSw; (try dsimp only at hSw); go_simp; try with_reducible rfl)
    try simp only [aP]
    refine tq (i := 1) rfl (v := ?v2) ?hy2 ?r2
    case hy2 => (intro w hSw; (try dsimp only at hSw); go_simp; try with_reducible rfl)
    try simp only [aP]
    refine tq (i := 2) rfl (v := ?v3) ?hy3 ?r3
    case hy3 => (intro w hSw; (try dsimp only at hSw); go_simp; try with_reducible rfl)
    try simp only [aP]
    refine tq (i := 3) rfl (v := ?v4) ?hy4 ?r4
    case hy4 => (intro w hSw; (try dsimp only at hSw); go_simp; try with_reducible rfl)
    try simp only [aP]
    refine wpAnyH_ready (rs := [4]) (by kernel_rfl) (by simp) ?_
    refine cq rfl (fun K hK => ?_) AllReadyH.nil
    go_simp
    (go_at_call 73; refine (HEN.out _).mono ?_; rintro e w2 ⟨rfl, hl2⟩; have hb2 : Below w.heap.size w w2 := HBE.out.drew.trans (hl2.mono HBE.out.size))
    try go_wp2_with fail
    refine hK.out _ _ (HCI.out _ (hb2)) (fun hHeld => ?_)
    clear hK K
    try simp only [aP]
    refine tq (i := 5) rfl (v := ?v5) ?hy5 ?r5
    case hy5 => (intro w hSw; (try dsimp only at hSw); go_simp; try with_reducible rfl)
    try simp only [aP]
    refine tq (i := 6) rfl (v := ?v6) ?hy6 ?r6
    case hy6 => (intro w hSw; (try dsimp only at hSw); go_simp; try with_reducible rfl)
    try simp only [aP]
    refine sq (i := 7) rfl ?_
    try simp only [aP]
    refine sq (i := 8) rfl ?_
    try simp only [aP]
    refine sq (i := 9) rfl ?_
    try simp only [aP]
    refine sq (i := 10) rfl ?_
    try simp only [aP]
    refine sq (i := 11) rfl ?_
    try simp only [aP]
    refine sq (i := 12) rfl ?_
    try simp only [aP]
    refine sq (i := 13) rfl ?_
    try simp only [aP]
    refine sq (i := 14) rfl ?_
    try simp only [aP]
    refine sq (i := 15) rfl ?_
    try simp only [aP]
    refine sq (i := 16) rfl ?_
    try simp only [aP]
    refine sq (i := 17) rfl ?_
    try simp only [aP]
    refine sq (i := 18) rfl ?_
    try simp only [aP]
    refine sq (i := 19) rfl ?_
    try simp only [aP]
    refine sq (i := 20) rfl ?_
    try simp only [aP]
    refine sq (i := 21) rfl ?_
    try simp only [aP]
    refine sq (i := 22) rfl ?_
    try simp only [aP]
    refine tq (i := 23) rfl (v := ?v7) ?hy7 ?r7
    case hy7 => (intro w hSw; (try dsimp only at hSw); go_simp; try with_reducible rfl)
    try simp only [aP]
    refine wpAnyH_done (by kernel_rfl) ?_ _
    go_wp2_with fail
    go_ret
    exact ⟨by rw [treeB_no (fun h => HF.out h.2)]; first | done | rfl, hb2⟩
   | true =>
    rw [heo] at HEN
    have HEO : Hid (eOk (E i) = true) := heo
    clear heo
    by_cases hi1 : 0 < i
    ·have hi1' : (0 : Int) < (i : Int) := by omega
     obtain ⟨K, hKk⟩ : ∃ K, i = K + 1 := ⟨i - 1, by omega⟩
     have HKk : Hid (i = K + 1) := hKk
     have hK1 : (i : Int) - 1 = (K : Int) := by omega
     have hK2 : (K : Int) < (n : Int) := by omega
     have hK0 : (0 : Int) ≤ (K : Int) := by omega
     have hK3 : IntKind.i64.wrap ((i : Int) - 1) = (K : Int) := by rw [IntKind.wrap_i64]; omega
     have hK4 : IntKind.i64.wrap (K : Int) = (K : Int) := by rw [IntKind.wrap_i64]; omega
     obtain ⟨M, hM⟩ : ∃ M, (E K).path = M := ⟨_, rfl⟩
     have HPK : Hid (pth E K = M.data.toList) := by show _ = _; unfold pth; rw [hM]
     have HCK : Hid (∀ w' : World, Below w.heap.size w w' → w'.cell? ⟨b, o + i * 4, none⟩ = some (.string P) ∧ w'.cell? ⟨b, o + i * 4 + 1, none⟩ = some (.int .i64 k) ∧ w'.cell? ⟨b, o + i * 4 + 2, none⟩ = some (.string d) ∧ w'.cell? ⟨b, o + i * 4 + 3, none⟩ = some (.bool x) ∧ w'.cell? ⟨b, o + K * 4, none⟩ = some (.string M)) := fun w' hb => by
      obtain ⟨q0, q1, q2, q3⟩ := HCI.out w' hb
      have q4 := ((HER.out K (by omega)).below hb).1
      rw [hM] at q4
      exact ⟨q0, q1, q2, q3, q4⟩
     clear hM hKk
     cases hbl : Op.bytesLess M.toList P.toList with
     | true =>
      have HLT : Hid (0 < i → pth E (i - 1) < pth E i) := fun _ => by
       rw [show i - 1 = K from by have := HKk.out; omega, HPK.out, HPI.out]
       have := bl M P
       rw [hbl] at this
       simpa using this.symm
      go_wp2_with fail
      refine wp_region_held_drew (S := fun w' => w'.cell? ⟨b, o + i * 4, none⟩ = some (.string P) ∧ w'.cell? ⟨b, o + i * 4 + 1, none⟩ = some (.int .i64 k) ∧ w'.cell? ⟨b, o + i * 4 + 2, none⟩ = some (.string d) ∧ w'.cell? ⟨b, o + i * 4 + 3, none⟩ = some (.bool x) ∧ w'.cell? ⟨b, o + K * 4, none⟩ = some (.string M)) (by kernel_rfl) (HCK.out _ (HBE.out.drew)) (fun hHeld => ?_)
      refine tq (i := 0) rfl (v := ?v8) ?hy8 ?r8
      case hy8 => (intro w hSw; (try dsimp only at hSw); go_simp; try with_reducible rfl)
      try simp only [aP]
      refine tq (i := 1) rfl (v := ?v9) ?hy9 ?r9
      case hy9 => (intro w hSw; (try dsimp only at hSw); go_simp; try with_reducible rfl)
      try simp only [aP]
      refine tq (i := 2) rfl (v := ?v10) ?hy10 ?r10
      case hy10 => (intro w hSw; (try dsimp only at hSw); go_simp; try with_reducible rfl)
      try simp only [aP]
      refine tq (i := 3) rfl (v := ?v11) ?hy11 ?r11
      case hy11 => (intro w hSw; (try dsimp only at hSw); go_simp; try with_reducible rfl)
      try simp only [aP]
      refine wpAnyH_ready (rs := [4]) (by kernel_rfl) (by simp) ?_
      refine cq rfl (fun K hK => ?_) AllReadyH.nil
      go_simp
      (go_at_call 73; refine (HEN.out _).mono ?_; rintro e w2 ⟨rfl, hl2⟩; have hb2 : Below w.heap.size w w2 := HBE.out.drew.trans (hl2.mono HBE.out.size))
      try go_wp2_with fail
      refine hK.out _ _ (HCK.out _ (hb2)) (fun hHeld => ?_)
      clear hK K
      try simp only [aP]
      refine tq (i := 5) rfl (v := ?v12) ?hy12 ?r12
      case hy12 => (intro w hSw; (try dsimp only at hSw); go_simp; try with_reducible rfl)
      try simp only [aP]
      refine tq (i := 6) rfl (v := ?v13) ?hy13 ?r13
      case hy13 => (intro w hSw; (try dsimp only at hSw); go_simp; try with_reducible rfl)
      try simp only [aP]
      refine tq (i := 7) rfl (v := ?v14) ?hy14 ?r14
      case hy14 => (intro w hSw; (try dsimp only at hSw); go_simp; try with_reducible rfl)
      try simp only [aP]
      refine tq (i := 8) rfl (v := ?v15) ?hy15 ?r15
      case hy15 => (intro w hSw; (try dsimp only at hSw); go_simp; try with_reducible rfl)
      try simp only [aP]
      refine tq (i := 9) rfl (v := ?v16) ?hy16 ?r16
      case hy16 => (intro w hSw; (try dsimp only at hSw); go_simp; try with_reducible rfl)
      try simp only [aP]
      refine tq (i := 10) rfl (v := ?v17) ?hy17 ?r17
      case hy17 => (intro w hSw; (try dsimp only at hSw); go_simp; try with_reducible rfl)
      try simp only [aP]
      refine tq (i := 11) rfl (v := ?v18) ?hy18 ?r18
      case hy18 => (intro w hSw; (try dsimp only at hSw); go_simp; try with_reducible rfl)
      try simp only [aP]
      refine tq (i := 12) rfl (v := ?v19) ?hy19 ?r19
      case hy19 => (intro w hSw; (try dsimp only at hSw); go_simp; try with_reducible rfl)
      try simp only [aP]
      refine tq (i := 13) rfl (v := ?v20) ?hy20 ?r20
      case hy20 => (intro w hSw; (try dsimp only at hSw); go_simp; try with_reducible rfl)
      try simp only [aP]
      refine tq (i := 14) rfl (v := ?v21) ?hy21 ?r21
      case hy21 => (intro w hSw; (try dsimp only at hSw); go_simp; try with_reducible rfl)
      try simp only [aP]
      refine tq (i := 15) rfl (v := ?v22) ?hy22 ?r22
      case hy22 => (intro w hSw; (try dsimp only at hSw); go_simp; try with_reducible rfl)
      try simp only [aP]
      refine tq (i := 16) rfl (v := ?v23) ?hy23 ?r23
      case hy23 => (intro w hSw; (try dsimp only at hSw); go_simp; try with_reducible rfl)
      try simp only [aP]
      refine tq (i := 17) rfl (v := ?v24) ?hy24 ?r24
      case hy24 => (intro w hSw; (try dsimp only at hSw); go_simp; try with_reducible rfl)
      try simp only [aP]
      refine tq (i := 18) rfl (v := ?v25) ?hy25 ?r25
      case hy25 => (intro w hSw; (try dsimp only at hSw); go_simp; try with_reducible rfl)
      try simp only [aP]
      refine tq (i := 19) rfl (v := ?v26) ?hy26 ?r26
      case hy26 => (intro w hSw; (try dsimp only at hSw); go_simp; try with_reducible rfl)
      try simp only [aP]
      refine tq (i := 20) rfl (v := ?v27) ?hy27 ?r27
      case hy27 => (intro w hSw; (try dsimp only at hSw); go_simp; try with_reducible rfl)
      try simp only [aP]
      refine tq (i := 21) rfl (v := ?v28) ?hy28 ?r28
      case hy28 => (intro w hSw; (try dsimp only at hSw); go_simp; try with_reducible rfl)
      try simp only [aP]
      refine tq (i := 22) rfl (v := ?v29) ?hy29 ?r29
      case hy29 => (intro w hSw; (try dsimp only at hSw); go_simp; try with_reducible rfl)
      try simp only [aP]
      refine tq (i := 23) rfl (v := ?v30) ?hy30 ?r30
      case hy30 => (intro w hSw; (try dsimp only at hSw); go_simp; try with_reducible rfl)
      try simp only [aP]
      refine wpAnyH_done (by kernel_rfl) ?_ _
      obtain ⟨z0, -, -, -⟩ := HCI.out _ hb2
      go_wp2_with (go_at_call 74; refine (HUP.out _).mono ?_; rintro e w3 ⟨rfl, hl3⟩; have hb3 : Below w.heap.size w w3 := hb2.trans (hl3.mono hb2.size); refine Hid.out ?_)
      refine Lib.hid ?_
      cases hue : U.toList.isEmpty with
      | true =>
       have HN : Hid (Tr E (i + 1)) := HTR.out.next HEO.out HLT.out (fun h => absurd (HUE.out.1 hue) h)
       go_wp2
       go_roundw
       case rel => exact ⟨i + 1, by omega, by go_num, HN.out, hb3⟩
       case measure => simp [intOf] <;> omega
      | false =>
       have HNE : Hid (up (pth E i) ≠ []) := fun h => by have := HUE.out.2 h; rw [hue] at this; cases this
       have HDI : Hid (Calls Tryz.prog 75 #[.slice (some ⟨b, o, none⟩) i cap, .string U] w3 fun e w' => e = .returned (.bool (dirB E i (up (pth E i)))) ∧ Below w3.heap.size w3 w') := HDR.out w3 hb3
       cases hdb : dirB E i (up (pth E i)) with
       | false =>
        rw [hdb] at HDI
        have HF : Hid (¬ Tr E n) := fun h => by
         rw [dirB_yes (h.2.2 i hil HNE.out)] at hdb
         cases hdb
        clear hdb
        go_wp2_with (go_at_call 75; refine HDI.out.mono ?_; rintro e w4 ⟨rfl, hl4⟩; have hb4 : Below w.heap.size w w4 := hb3.trans (hl4.mono hb3.size))
        go_ret
        exact ⟨by rw [treeB_no (fun h => HF.out h.2)]; first | done | rfl, hb4⟩
       | true =>
        rw [hdb] at HDI
        have HN : Hid (Tr E (i + 1)) := HTR.out.next HEO.out HLT.out (fun _ => dirB_iff.1 hdb)
        clear hdb
        go_wp2_with (go_at_call 75; refine HDI.out.mono ?_; rintro e w4 ⟨rfl, hl4⟩; have hb4 : Below w.heap.size w w4 := hb3.trans (hl4.mono hb3.size))
        go_roundw
        case rel => exact ⟨i + 1, by omega, by go_num, HN.out, hb4⟩
        case measure => simp [intOf] <;> omega
     | false =>
      have HF : Hid (¬ Tr E n) := fun h => by
       have h2 := h.2.1 K (by have := HKk.out; omega)
       rw [show K + 1 = i from HKk.out.symm, HPK.out, HPI.out] at h2
       have := bl M P
       rw [hbl] at this
       simp at this
       exact absurd h2 (List.not_lt.2 this)
      go_wp2_with fail
      refine wp_region_held_drew (S := fun w' => w'.cell? ⟨b, o + i * 4, none⟩ = some (.string P) ∧ w'.cell? ⟨b, o + i * 4 + 1, none⟩ = some (.int .i64 k) ∧ w'.cell? ⟨b, o + i * 4 + 2, none⟩ = some (.string d) ∧ w'.cell? ⟨b, o + i * 4 + 3, none⟩ = some (.bool x) ∧ w'.cell? ⟨b, o + K * 4, none⟩ = some (.string M)) (by kernel_rfl) (HCK.out _ (HBE.out.drew)) (fun hHeld => ?_)
      refine tq (i := 0) rfl (v := ?v31) ?hy31 ?r31
      case hy31 => (intro w hSw; (try dsimp only at hSw); go_simp; try with_reducible rfl)
      try simp only [aP]
      refine tq (i := 1) rfl (v := ?v32) ?hy32 ?r32
      case hy32 => (intro w hSw; (try dsimp only at hSw); go_simp; try with_reducible rfl)
      try simp only [aP]
      refine tq (i := 2) rfl (v := ?v33) ?hy33 ?r33
      case hy33 => (intro w hSw; (try dsimp only at hSw); go_simp; try with_reducible rfl)
      try simp only [aP]
      refine tq (i := 3) rfl (v := ?v34) ?hy34 ?r34
      case hy34 => (intro w hSw; (try dsimp only at hSw); go_simp; try with_reducible rfl)
      try simp only [aP]
      refine wpAnyH_ready (rs := [4]) (by kernel_rfl) (by simp) ?_
      refine cq rfl (fun K hK => ?_) AllReadyH.nil
      go_simp
      (go_at_call 73; refine (HEN.out _).mono ?_; rintro e w2 ⟨rfl, hl2⟩; have hb2 : Below w.heap.size w w2 := HBE.out.drew.trans (hl2.mono HBE.out.size))
      try go_wp2_with fail
      refine hK.out _ _ (HCK.out _ (hb2)) (fun hHeld => ?_)
      clear hK K
      try simp only [aP]
      refine tq (i := 5) rfl (v := ?v35) ?hy35 ?r35
      case hy35 => (intro w hSw; (try dsimp only at hSw); go_simp; try with_reducible rfl)
      try simp only [aP]
      refine tq (i := 6) rfl (v := ?v36) ?hy36 ?r36
      case hy36 => (intro w hSw; (try dsimp only at hSw); go_simp; try with_reducible rfl)
      try simp only [aP]
      refine tq (i := 7) rfl (v := ?v37) ?hy37 ?r37
      case hy37 => (intro w hSw; (try dsimp only at hSw); go_simp; try with_reducible rfl)
      try simp only [aP]
      refine tq (i := 8) rfl (v := ?v38) ?hy38 ?r38
      case hy38 => (intro w hSw; (try dsimp only at hSw); go_simp; try with_reducible rfl)
      try simp only [aP]
      refine tq (i := 9) rfl (v := ?v39) ?hy39 ?r39
      case hy39 => (intro w hSw; (try dsimp only at hSw); go_simp; try with_reducible rfl)
      try simp only [aP]
      refine tq (i := 10) rfl (v := ?v40) ?hy40 ?r40
      case hy40 => (intro w hSw; (try dsimp only at hSw); go_simp; try with_reducible rfl)
      try simp only [aP]
      refine tq (i := 11) rfl (v := ?v41) ?hy41 ?r41
      case hy41 => (intro w hSw; (try dsimp only at hSw); go_simp; try with_reducible rfl)
      try simp only [aP]
      refine tq (i := 12) rfl (v := ?v42) ?hy42 ?r42
      case hy42 => (intro w hSw; (try dsimp only at hSw); go_simp; try with_reducible rfl)
      try simp only [aP]
      refine tq (i := 13) rfl (v := ?v43) ?hy43 ?r43
      case hy43 => (intro w hSw; (try dsimp only at hSw); go_simp; try with_reducible rfl)
      try simp only [aP]
      refine tq (i := 14) rfl (v := ?v44) ?hy44 ?r44
      case hy44 => (intro w hSw; (try dsimp only at hSw); go_simp; try with_reducible rfl)
      try simp only [aP]
      refine tq (i := 15) rfl (v := ?v45) ?hy45 ?r45
      case hy45 => (intro w hSw; (try dsimp only at hSw); go_simp; try with_reducible rfl)
      try simp only [aP]
      refine tq (i := 16) rfl (v := ?v46) ?hy46 ?r46
      case hy46 => (intro w hSw; (try dsimp only at hSw); go_simp; try with_reducible rfl)
      try simp only [aP]
      refine tq (i := 17) rfl (v := ?v47) ?hy47 ?r47
      case hy47 => (intro w hSw; (try dsimp only at hSw); go_simp; try with_reducible rfl)
      try simp only [aP]
      refine tq (i := 18) rfl (v := ?v48) ?hy48 ?r48
      case hy48 => (intro w hSw; (try dsimp only at hSw); go_simp; try with_reducible rfl)
      try simp only [aP]
      refine tq (i := 19) rfl (v := ?v49) ?hy49 ?r49
      case hy49 => (intro w hSw; (try dsimp only at hSw); go_simp; try with_reducible rfl)
      try simp only [aP]
      refine tq (i := 20) rfl (v := ?v50) ?hy50 ?r50
      case hy50 => (intro w hSw; (try dsimp only at hSw); go_simp; try with_reducible rfl)
      try simp only [aP]
      refine tq (i := 21) rfl (v := ?v51) ?hy51 ?r51
      case hy51 => (intro w hSw; (try dsimp only at hSw); go_simp; try with_reducible rfl)
      try simp only [aP]
      refine tq (i := 22) rfl (v := ?v52) ?hy52 ?r52
      case hy52 => (intro w hSw; (try dsimp only at hSw); go_simp; try with_reducible rfl)
      try simp only [aP]
      refine tq (i := 23) rfl (v := ?v53) ?hy53 ?r53
      case hy53 => (intro w hSw; (try dsimp only at hSw); go_simp; try with_reducible rfl)
      try simp only [aP]
      refine wpAnyH_done (by kernel_rfl) ?_ _
      go_wp2_with fail
      go_ret
      exact ⟨by rw [treeB_no (fun h => HF.out h.2)]; first | done | rfl, hb2⟩
    ·have hi1' : ¬ (0 : Int) < (i : Int) := by omega
     have HLT : Hid (0 < i → pth E (i - 1) < pth E i) := fun h => absurd h hi1
     go_wp2_with fail
     refine wp_region_held_drew (S := fun w' => w'.cell? ⟨b, o + i * 4, none⟩ = some (.string P) ∧ w'.cell? ⟨b, o + i * 4 + 1, none⟩ = some (.int .i64 k) ∧ w'.cell? ⟨b, o + i * 4 + 2, none⟩ = some (.string d) ∧ w'.cell? ⟨b, o + i * 4 + 3, none⟩ = some (.bool x)) (by kernel_rfl) (HCI.out _ (HBE.out.drew)) (fun hHeld => ?_)
     refine tq (i := 0) rfl (v := ?v54) ?hy54 ?r54
     case hy54 => (intro w hSw; (try dsimp only at hSw); go_simp; try with_reducible rfl)
     try simp only [aP]
     refine tq (i := 1) rfl (v := ?v55) ?hy55 ?r55
     case hy55 => (intro w hSw; (try dsimp only at hSw); go_simp; try with_reducible rfl)
     try simp only [aP]
     refine tq (i := 2) rfl (v := ?v56) ?hy56 ?r56
     case hy56 => (intro w hSw; (try dsimp only at hSw); go_simp; try with_reducible rfl)
     try simp only [aP]
     refine tq (i := 3) rfl (v := ?v57) ?hy57 ?r57
     case hy57 => (intro w hSw; (try dsimp only at hSw); go_simp; try with_reducible rfl)
     try simp only [aP]
     refine wpAnyH_ready (rs := [4]) (by kernel_rfl) (by simp) ?_
     refine cq rfl (fun K hK => ?_) AllReadyH.nil
     go_simp
     (go_at_call 73; refine (HEN.out _).mono ?_; rintro e w2 ⟨rfl, hl2⟩; have hb2 : Below w.heap.size w w2 := HBE.out.drew.trans (hl2.mono HBE.out.size))
     try go_wp2_with fail
     refine hK.out _ _ (HCI.out _ (hb2)) (fun hHeld => ?_)
     clear hK K
     try simp only [aP]
     refine tq (i := 5) rfl (v := ?v58) ?hy58 ?r58
     case hy58 => (intro w hSw; (try dsimp only at hSw); go_simp; try with_reducible rfl)
     try simp only [aP]
     refine tq (i := 6) rfl (v := ?v59) ?hy59 ?r59
     case hy59 => (intro w hSw; (try dsimp only at hSw); go_simp; try with_reducible rfl)
     try simp only [aP]
     refine tq (i := 7) rfl (v := ?v60) ?hy60 ?r60
     case hy60 => (intro w hSw; (try dsimp only at hSw); go_simp; try with_reducible rfl)
     try simp only [aP]
     refine tq (i := 8) rfl (v := ?v61) ?hy61 ?r61
     case hy61 => (intro w hSw; (try dsimp only at hSw); go_simp; try with_reducible rfl)
     try simp only [aP]
     refine tq (i := 9) rfl (v := ?v62) ?hy62 ?r62
     case hy62 => (intro w hSw; (try dsimp only at hSw); go_simp; try with_reducible rfl)
     try simp only [aP]
     refine sq (i := 10) rfl ?_
     try simp only [aP]
     refine sq (i := 11) rfl ?_
     try simp only [aP]
     refine sq (i := 12) rfl ?_
     try simp only [aP]
     refine sq (i := 13) rfl ?_
     try simp only [aP]
     refine sq (i := 14) rfl ?_
     try simp only [aP]
     refine sq (i := 15) rfl ?_
     try simp only [aP]
     refine sq (i := 16) rfl ?_
     try simp only [aP]
     refine sq (i := 17) rfl ?_
     try simp only [aP]
     refine sq (i := 18) rfl ?_
     try simp only [aP]
     refine sq (i := 19) rfl ?_
     try simp only [aP]
     refine sq (i := 20) rfl ?_
     try simp only [aP]
     refine sq (i := 21) rfl ?_
     try simp only [aP]
     refine tq (i := 22) rfl (v := ?v63) ?hy63 ?r63
     case hy63 => (intro w hSw; (try dsimp only at hSw); go_simp; try with_reducible rfl)
     try simp only [aP]
     refine tq (i := 23) rfl (v := ?v64) ?hy64 ?r64
     case hy64 => (intro w hSw; (try dsimp only at hSw); go_simp; try with_reducible rfl)
     try simp only [aP]
     refine wpAnyH_done (by kernel_rfl) ?_ _
     obtain ⟨z0, -, -, -⟩ := HCI.out _ hb2
     go_wp2_with (go_at_call 74; refine (HUP.out _).mono ?_; rintro e w3 ⟨rfl, hl3⟩; have hb3 : Below w.heap.size w w3 := hb2.trans (hl3.mono hb2.size); refine Hid.out ?_)
     refine Lib.hid ?_
     cases hue : U.toList.isEmpty with
     | true =>
      have HN : Hid (Tr E (i + 1)) := HTR.out.next HEO.out HLT.out (fun h => absurd (HUE.out.1 hue) h)
      go_wp2
      go_roundw
      case rel => exact ⟨i + 1, by omega, by go_num, HN.out, hb3⟩
      case measure => simp [intOf] <;> omega
     | false =>
      have HNE : Hid (up (pth E i) ≠ []) := fun h => by have := HUE.out.2 h; rw [hue] at this; cases this
      have HDI : Hid (Calls Tryz.prog 75 #[.slice (some ⟨b, o, none⟩) i cap, .string U] w3 fun e w' => e = .returned (.bool (dirB E i (up (pth E i)))) ∧ Below w3.heap.size w3 w') := HDR.out w3 hb3
      cases hdb : dirB E i (up (pth E i)) with
      | false =>
       rw [hdb] at HDI
       have HF : Hid (¬ Tr E n) := fun h => by
        rw [dirB_yes (h.2.2 i hil HNE.out)] at hdb
        cases hdb
       clear hdb
       go_wp2_with (go_at_call 75; refine HDI.out.mono ?_; rintro e w4 ⟨rfl, hl4⟩; have hb4 : Below w.heap.size w w4 := hb3.trans (hl4.mono hb3.size))
       go_ret
       exact ⟨by rw [treeB_no (fun h => HF.out h.2)]; first | done | rfl, hb4⟩
      | true =>
       rw [hdb] at HDI
       have HN : Hid (Tr E (i + 1)) := HTR.out.next HEO.out HLT.out (fun _ => dirB_iff.1 hdb)
       clear hdb
       go_wp2_with (go_at_call 75; refine HDI.out.mono ?_; rintro e w4 ⟨rfl, hl4⟩; have hb4 : Below w.heap.size w w4 := hb3.trans (hl4.mono hb3.size))
       go_roundw
       case rel => exact ⟨i + 1, by omega, by go_num, HN.out, hb4⟩
       case measure => simp [intOf] <;> omega
  ·have hil' : ¬ (i : Int) < (n : Int) := by omega
   obtain rfl : i = n := by omega
   clear hbel
   go_wp2
   go_ret
   exact ⟨by rw [treeB_yes (by omega) HTR.out]; first | done | rfl, HBE.out⟩
end Go.Proofs.YtcpmgellfaeejaaGreatDoor.tt
