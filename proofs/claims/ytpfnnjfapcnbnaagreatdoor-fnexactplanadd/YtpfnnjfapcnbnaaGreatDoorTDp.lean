import Derived.Test.YtpfnnjfapcnbnaaGreatDoorLqp
import Derived.Test.YtpfnnjfapcnbnaaGreatDoorTA1p
import Derived.Deep.RegionHeld3
set_option linter.unusedVariables false
set_option linter.unusedSimpArgs false
set_option maxRecDepth 100000
set_option maxHeartbeats 16000000
namespace Go.Proofs.YtpfnnjfapcnbnaaGreatDoor.tt
open Go.ChangeShapes Go.WideShapes Go.ChangeAt Go.RowKit Go.Deep
theorem stree_any (E : Nat → En) (b o n cap : Nat) (w : World) (hR : EnR w b o n E) (hS : SmE n E) (hn : n ≤ 1048576) (hcap : n ≤ cap) (hcm : cap ≤ maxLen) :
  Calls Tryz.prog 50 #[.slice (some ⟨b, o, none⟩) n cap] w fun e w' => e = .returned (.bool (treeB E n)) ∧ Below w.heap.size w w' := by
 unfold maxLen at hcm
 by_cases h5 : 500 < n
 ·have h5' : (500 : Int) < (n : Int) := by omega
  have HF : Hid (¬ (n ≤ 500 ∧ Tr E n)) := fun h => by omega
  clear hR hS
  go_enter Tryz.func50, Tryz.ntmps50
  go_wp2
  go_ret
  exact ⟨by rw [treeB_no HF.out]; first | done | rfl, Below.refl _ _⟩
 have h5' : ¬ (500 : Int) < (n : Int) := by omega
 have HER : Hid (EnR w b o n E) := hR
 have HSM : Hid (SmE n E) := hS
 clear hR hS
 go_enter Tryz.func50, Tryz.ntmps50
 go_wp2
 go_loopw [3] (fun x wr => ∃ i : Nat, i ≤ n ∧ x = .int .i64 (i : Int) ∧ Tr E i ∧ Below w.heap.size w wr) (fun x _ => n - (intOf x).toNat)
 case atStart => exact ⟨0, Nat.zero_le _, rfl, Tr.zero E, Below.refl _ _⟩
 case round =>
  obtain ⟨i, hi, rfl, htr, hbel⟩ := hrel
  have HTR : Hid (Tr E i) := htr
  have HBE : Hid (Below w.heap.size w wr) := hbel
  clear htr
  by_cases hil : i < n
  ·have hil' : (i : Int) < (n : Int) := by omega
   have hi0 : (0 : Int) ≤ (i : Int) := by omega
   have hic : (i : Int) ≤ (cap : Int) := by omega
   have hsm := HSM.out i hil
   obtain ⟨P, hP⟩ : ∃ P, (E i).path = P := ⟨_, rfl⟩
   obtain ⟨k, hk⟩ : ∃ k, (E i).kind = k := ⟨_, rfl⟩
   obtain ⟨d, hd⟩ : ∃ d, (E i).data = d := ⟨_, rfl⟩
   obtain ⟨x, hx⟩ : ∃ x, (E i).exec = x := ⟨_, rfl⟩
   have HCI : Hid (∀ w' : World, Below w.heap.size w w' → w'.cell? ⟨b, o + i * 4, none⟩ = some (.string P) ∧ w'.cell? ⟨b, o + i * 4 + 1, none⟩ = some (.int .i64 k) ∧ w'.cell? ⟨b, o + i * 4 + 2, none⟩ = some (.string d) ∧ w'.cell? ⟨b, o + i * 4 + 3, none⟩ = some (.bool x)) := fun w' hb => by
    obtain ⟨q0, q1, q2, q3⟩ := (HER.out i hil).below hb
    rw [hP] at q0
    rw [hk] at q1
    rw [hd] at q2
    rw [hx] at q3
    exact ⟨q0, q1, q2, q3⟩
   have hpi : pth E i = P.data.toList := by unfold pth; rw [hP]
   have HPI : Hid (pth E i = P.data.toList) := hpi
   have HEN : Hid (∀ W, Calls Tryz.prog 105 #[.agg #[.string P, .int .i64 k, .string d, .bool x]] W fun r w' => r = .returned (.bool (eOk (E i))) ∧ Below W.heap.size W w') := fun W => by
    have := entry_any (E i) hsm.1 hsm.2 W
    unfold eV at this
    rwa [hP, hk, hd, hx] at this
   obtain ⟨U, hU⟩ : ∃ U : ByteArray, (⟨(up P.data.toList).toArray⟩ : ByteArray) = U := ⟨_, rfl⟩
   have HUP : Hid (∀ W, Calls Tryz.prog 106 #[.string P] W fun e w' => e = .returned (.string U) ∧ Below W.heap.size W w') := fun W => by
    have := up_any P (by rw [← hP]; exact hsm.1) W
    rwa [hU] at this
   have hUl : U.data.toList = up (pth E i) := by rw [← hU, hpi]
   have HUE : Hid (U.toList.isEmpty = true ↔ up (pth E i) = []) := by
    show _ ↔ _
    rw [ByteArray.toList_eq, hUl]
    simp
   have HDR : Hid (∀ W, Below w.heap.size w W → Calls Tryz.prog 107 #[.slice (some ⟨b, o, none⟩) i cap, .string U] W fun e w' => e = .returned (.bool (dirB E i (up (pth E i)))) ∧ Below W.heap.size W w') := fun W hb => by
    have := dir_any E b o i cap U W (fun j hj => (HER.out j (by omega)).below hb) HTR.out.asc (by omega) (by omega)
    rwa [hUl] at this
   obtain ⟨c0, c1, c2, c3⟩ := HCI.out wr hbel
   clear hbel hP hk hd hx hpi hU hUl hsm
   cases heo : eOk (E i) with
   | false =>
    rw [heo] at HEN
    have HF : Hid (¬ Tr E n) := fun h => by have := h.1 i hil; rw [heo] at this; cases this
    clear heo
    go_wp2_with fail
    refine wq 24 (S := fun w' => w'.cell? ⟨b, o + i * 4, none⟩ = some (.string P) ∧ w'.cell? ⟨b, o + i * 4 + 1, none⟩ = some (.int .i64 k) ∧ w'.cell? ⟨b, o + i * 4 + 2, none⟩ = some (.string d) ∧ w'.cell? ⟨b, o + i * 4 + 3, none⟩ = some (.bool x)) (by kernel_rfl) (HCI.out _ (HBE.out.drew)) fun hHeld => ?_
    iterate 4 (refine un 24 rfl ?_;try simp only [aP])
    refine rq 4 rfl fun K hK => ?_
    go_simp
    (go_at_call 105; refine (HEN.out _).mono ?_; rintro e w2 ⟨rfl, hl2⟩; have hb2 : Below w.heap.size w w2 := HBE.out.drew.trans (hl2.mono HBE.out.size))
    try go_wp2_with fail
    refine hK.out _ _ (HCI.out _ (hb2)) (fun hHeld => ?_)
    clear hK K
    try simp only [aP]
    iterate 19 ((first|refine sn 24 rfl ?_|refine un 24 rfl ?_);try simp only [aP])
    refine dq ?_
    go_wp2_with fail
    go_ret
    exact ⟨by rw [treeB_no (fun h => HF.out h.2)]; first | done | rfl, hb2⟩
   | true =>
    rw [heo] at HEN
    have HEO : Hid (eOk (E i) = true) := heo
    clear heo
    by_cases hi1 : 0 < i
    ·have hi1' : (0 : Int) < (i : Int) := by omega
     obtain ⟨K, hKk⟩ : ∃ K, i = K + 1 := ⟨i - 1, by omega⟩
     have HKk : Hid (i = K + 1) := hKk
     have hK1 : (i : Int) - 1 = (K : Int) := by omega
     have hK2 : (K : Int) < (n : Int) := by omega
     have hK0 : (0 : Int) ≤ (K : Int) := by omega
     have hK3 : IntKind.i64.wrap ((i : Int) - 1) = (K : Int) := by rw [IntKind.wrap_i64]; omega
     have hK4 : IntKind.i64.wrap (K : Int) = (K : Int) := by rw [IntKind.wrap_i64]; omega
     obtain ⟨M, hM⟩ : ∃ M, (E K).path = M := ⟨_, rfl⟩
     have HPK : Hid (pth E K = M.data.toList) := by show _ = _; unfold pth; rw [hM]
     have HCK : Hid (∀ w' : World, Below w.heap.size w w' → w'.cell? ⟨b, o + i * 4, none⟩ = some (.string P) ∧ w'.cell? ⟨b, o + i * 4 + 1, none⟩ = some (.int .i64 k) ∧ w'.cell? ⟨b, o + i * 4 + 2, none⟩ = some (.string d) ∧ w'.cell? ⟨b, o + i * 4 + 3, none⟩ = some (.bool x) ∧ w'.cell? ⟨b, o + K * 4, none⟩ = some (.string M)) := fun w' hb => by
      obtain ⟨q0, q1, q2, q3⟩ := HCI.out w' hb
      have q4 := ((HER.out K (by omega)).below hb).1
      rw [hM] at q4
      exact ⟨q0, q1, q2, q3, q4⟩
     clear hM hKk
     cases hbl : Op.bytesLess M.toList P.toList with
     | true =>
      have HLT : Hid (0 < i → pth E (i - 1) < pth E i) := fun _ => by
       rw [show i - 1 = K from by have := HKk.out; omega, HPK.out, HPI.out]
       have := bl M P
       rw [hbl] at this
       simpa using this.symm
      go_wp2_with fail
      refine wq 24 (S := fun w' => w'.cell? ⟨b, o + i * 4, none⟩ = some (.string P) ∧ w'.cell? ⟨b, o + i * 4 + 1, none⟩ = some (.int .i64 k) ∧ w'.cell? ⟨b, o + i * 4 + 2, none⟩ = some (.string d) ∧ w'.cell? ⟨b, o + i * 4 + 3, none⟩ = some (.bool x) ∧ w'.cell? ⟨b, o + K * 4, none⟩ = some (.string M)) (by kernel_rfl) (HCK.out _ (HBE.out.drew)) fun hHeld => ?_
      iterate 4 (refine un 24 rfl ?_;try simp only [aP])
      refine rq 4 rfl fun K hK => ?_
      go_simp
      (go_at_call 105; refine (HEN.out _).mono ?_; rintro e w2 ⟨rfl, hl2⟩; have hb2 : Below w.heap.size w w2 := HBE.out.drew.trans (hl2.mono HBE.out.size))
      try go_wp2_with fail
      refine hK.out _ _ (HCK.out _ (hb2)) (fun hHeld => ?_)
      clear hK K
      try simp only [aP]
      iterate 19 (refine un 24 rfl ?_;try simp only [aP])
      refine dq ?_
      obtain ⟨z0, -, -, -⟩ := HCI.out _ hb2
      go_wp2_with (go_at_call 106; refine (HUP.out _).mono ?_; rintro e w3 ⟨rfl, hl3⟩; have hb3 : Below w.heap.size w w3 := hb2.trans (hl3.mono hb2.size); refine Hid.out ?_)
      refine Lib.hid ?_
      cases hue : U.toList.isEmpty with
      | true =>
       have HN : Hid (Tr E (i + 1)) := HTR.out.next HEO.out HLT.out (fun h => absurd (HUE.out.1 hue) h)
       go_wp2
       go_roundw
       case rel => exact ⟨i + 1, by omega, by go_num, HN.out, hb3⟩
       case measure => simp [intOf] <;> omega
      | false =>
       have HNE : Hid (up (pth E i) ≠ []) := fun h => by have := HUE.out.2 h; rw [hue] at this; cases this
       have HDI := Lib.hid (HDR.out w3 hb3)
       cases hdb : dirB E i (up (pth E i)) with
       | false =>
        rw [hdb] at HDI
        have HF : Hid (¬ Tr E n) := fun h => by
         rw [dirB_yes (h.2.2 i hil HNE.out)] at hdb
         cases hdb
        clear hdb
        go_wp2_with (go_at_call 107; refine HDI.out.mono ?_; rintro e w4 ⟨rfl, hl4⟩; have hb4 : Below w.heap.size w w4 := hb3.trans (hl4.mono hb3.size))
        go_ret
        exact ⟨by rw [treeB_no (fun h => HF.out h.2)]; first | done | rfl, hb4⟩
       | true =>
        rw [hdb] at HDI
        have HN : Hid (Tr E (i + 1)) := HTR.out.next HEO.out HLT.out (fun _ => dirB_iff.1 hdb)
        clear hdb
        go_wp2_with (go_at_call 107; refine HDI.out.mono ?_; rintro e w4 ⟨rfl, hl4⟩; have hb4 : Below w.heap.size w w4 := hb3.trans (hl4.mono hb3.size))
        go_roundw
        case rel => exact ⟨i + 1, by omega, by go_num, HN.out, hb4⟩
        case measure => simp [intOf] <;> omega
     | false =>
      have HF : Hid (¬ Tr E n) := fun h => by
       have h2 := h.2.1 K (by have := HKk.out; omega)
       rw [show K + 1 = i from HKk.out.symm, HPK.out, HPI.out] at h2
       have := bl M P
       rw [hbl] at this
       simp at this
       exact absurd h2 (List.not_lt.2 this)
      go_wp2_with fail
      refine wq 24 (S := fun w' => w'.cell? ⟨b, o + i * 4, none⟩ = some (.string P) ∧ w'.cell? ⟨b, o + i * 4 + 1, none⟩ = some (.int .i64 k) ∧ w'.cell? ⟨b, o + i * 4 + 2, none⟩ = some (.string d) ∧ w'.cell? ⟨b, o + i * 4 + 3, none⟩ = some (.bool x) ∧ w'.cell? ⟨b, o + K * 4, none⟩ = some (.string M)) (by kernel_rfl) (HCK.out _ (HBE.out.drew)) fun hHeld => ?_
      iterate 4 (refine un 24 rfl ?_;try simp only [aP])
      refine rq 4 rfl fun K hK => ?_
      go_simp
      (go_at_call 105; refine (HEN.out _).mono ?_; rintro e w2 ⟨rfl, hl2⟩; have hb2 : Below w.heap.size w w2 := HBE.out.drew.trans (hl2.mono HBE.out.size))
      try go_wp2_with fail
      refine hK.out _ _ (HCK.out _ (hb2)) (fun hHeld => ?_)
      clear hK K
      try simp only [aP]
      iterate 19 (refine un 24 rfl ?_;try simp only [aP])
      refine dq ?_
      go_wp2_with fail
      go_ret
      exact ⟨by rw [treeB_no (fun h => HF.out h.2)]; first | done | rfl, hb2⟩
    ·have hi1' : ¬ (0 : Int) < (i : Int) := by omega
     have HLT : Hid (0 < i → pth E (i - 1) < pth E i) := fun h => absurd h hi1
     go_wp2_with fail
     refine wq 24 (S := fun w' => w'.cell? ⟨b, o + i * 4, none⟩ = some (.string P) ∧ w'.cell? ⟨b, o + i * 4 + 1, none⟩ = some (.int .i64 k) ∧ w'.cell? ⟨b, o + i * 4 + 2, none⟩ = some (.string d) ∧ w'.cell? ⟨b, o + i * 4 + 3, none⟩ = some (.bool x)) (by kernel_rfl) (HCI.out _ (HBE.out.drew)) fun hHeld => ?_
     iterate 4 (refine un 24 rfl ?_;try simp only [aP])
     refine rq 4 rfl fun K hK => ?_
     go_simp
     (go_at_call 105; refine (HEN.out _).mono ?_; rintro e w2 ⟨rfl, hl2⟩; have hb2 : Below w.heap.size w w2 := HBE.out.drew.trans (hl2.mono HBE.out.size))
     try go_wp2_with fail
     refine hK.out _ _ (HCI.out _ (hb2)) (fun hHeld => ?_)
     clear hK K
     try simp only [aP]
     iterate 19 ((first|refine sn 24 rfl ?_|refine un 24 rfl ?_);try simp only [aP])
     refine dq ?_
     obtain ⟨z0, -, -, -⟩ := HCI.out _ hb2
     go_wp2_with (go_at_call 106; refine (HUP.out _).mono ?_; rintro e w3 ⟨rfl, hl3⟩; have hb3 : Below w.heap.size w w3 := hb2.trans (hl3.mono hb2.size); refine Hid.out ?_)
     refine Lib.hid ?_
     cases hue : U.toList.isEmpty with
     | true =>
      have HN : Hid (Tr E (i + 1)) := HTR.out.next HEO.out HLT.out (fun h => absurd (HUE.out.1 hue) h)
      go_wp2
      go_roundw
      case rel => exact ⟨i + 1, by omega, by go_num, HN.out, hb3⟩
      case measure => simp [intOf] <;> omega
     | false =>
      have HNE : Hid (up (pth E i) ≠ []) := fun h => by have := HUE.out.2 h; rw [hue] at this; cases this
      have HDI := Lib.hid (HDR.out w3 hb3)
      cases hdb : dirB E i (up (pth E i)) with
      | false =>
       rw [hdb] at HDI
       have HF : Hid (¬ Tr E n) := fun h => by
        rw [dirB_yes (h.2.2 i hil HNE.out)] at hdb
        cases hdb
       clear hdb
       go_wp2_with (go_at_call 107; refine HDI.out.mono ?_; rintro e w4 ⟨rfl, hl4⟩; have hb4 : Below w.heap.size w w4 := hb3.trans (hl4.mono hb3.size))
       go_ret
       exact ⟨by rw [treeB_no (fun h => HF.out h.2)]; first | done | rfl, hb4⟩
      | true =>
       rw [hdb] at HDI
       have HN : Hid (Tr E (i + 1)) := HTR.out.next HEO.out HLT.out (fun _ => dirB_iff.1 hdb)
       clear hdb
       go_wp2_with (go_at_call 107; refine HDI.out.mono ?_; rintro e w4 ⟨rfl, hl4⟩; have hb4 : Below w.heap.size w w4 := hb3.trans (hl4.mono hb3.size))
       go_roundw
       case rel => exact ⟨i + 1, by omega, by go_num, HN.out, hb4⟩
       case measure => simp [intOf] <;> omega
  ·have hil' : ¬ (i : Int) < (n : Int) := by omega
   obtain rfl : i = n := by omega
   clear hbel
   go_wp2
   go_ret
   exact ⟨by rw [treeB_yes (by omega) HTR.out]; first | done | rfl, HBE.out⟩
end Go.Proofs.YtpfnnjfapcnbnaaGreatDoor.tt
