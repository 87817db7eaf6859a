import Derived.Test.YthbgpfjbfkiljaaGreatDoorG01
import Derived.Test.YthbgpfjbfkiljaaGreatDoorG02
import Derived.Deep.RegionHeld3
import Derived.Test.YthbgpfjbfkiljaaGreatDoorG03
import Derived.Test.YthbgpfjbfkiljaaGreatDoorG04
import Derived.Maps.AppendAt
import Derived.BigQuiet
import Derived.Sort.Walk0
import Derived.Deep.AppendLies
import Derived.Lib.SlicesCompact
set_option linter.unusedVariables false
set_option linter.unusedSimpArgs false
set_option maxRecDepth 100000
set_option maxHeartbeats 16000000
namespace Go.Proofs.YthbgpfjbfkiljaaGreatDoor.tt
open Go.ChangeShapes Go.WideShapes Go.ChangeAt Go.RowKit Go.Deep
theorem stree_any (E : Nat → En) (b o n cap : Nat) (w : World) (hR : EnR w b o n E) (hS : SmE n E) (hn : n ≤ 1048576) (hcap : n ≤ cap) (hcm : cap ≤ maxLen) :
  Calls Tryz.prog 52 #[.slice (some ⟨b, o, none⟩) n cap] w fun e w' => e = .returned (.bool (treeB E n)) ∧ Below w.heap.size w w' := by
 unfold maxLen at hcm
 by_cases h5 : 500 < n
 ·have h5' : (500 : Int) < (n : Int) := by omega
  have HF : Hid (¬ (n ≤ 500 ∧ Tr E n)) := fun h => by omega
  clear hR hS
  go_enter Tryz.func52, Tryz.ntmps52
  go_wp2
  go_ret
  exact ⟨by rw [treeB_no HF.out]; first | done | rfl, Below.refl _ _⟩
 have h5' : ¬ (500 : Int) < (n : Int) := by omega
 have HER : Hid (EnR w b o n E) := hR
 have HSM : Hid (SmE n E) := hS
 clear hR hS
 go_enter Tryz.func52, Tryz.ntmps52
 go_wp2
 go_loopw [3] (fun x wr => ∃ i : Nat, i ≤ n ∧ x = .int .i64 (i : Int) ∧ Tr E i ∧ Below w.heap.size w wr) (fun x _ => n - (intOf x).toNat)
 case atStart => exact ⟨0, Nat.zero_le _, rfl, Tr.zero E, Below.refl _ _⟩
 case round =>
  obtain ⟨i, hi, rfl, htr, hbel⟩ := hrel
  have HTR : Hid (Tr E i) := htr
  have HBE : Hid (Below w.heap.size w wr) := hbel
  clear htr
  by_cases hil : i < n
  ·have hil' : (i : Int) < (n : Int) := by omega
   have hi0 : (0 : Int) ≤ (i : Int) := by omega
   have hic : (i : Int) ≤ (cap : Int) := by omega
   have hsm := HSM.out i hil
   obtain ⟨P, hP⟩ : ∃ P, (E i).path = P := ⟨_, rfl⟩
   obtain ⟨k, hk⟩ : ∃ k, (E i).kind = k := ⟨_, rfl⟩
   obtain ⟨d, hd⟩ : ∃ d, (E i).data = d := ⟨_, rfl⟩
   obtain ⟨x, hx⟩ : ∃ x, (E i).exec = x := ⟨_, rfl⟩
   have HCI : Hid (∀ w' : World, Below w.heap.size w w' → w'.cell? ⟨b, o + i * 4, none⟩ = some (.string P) ∧ w'.cell? ⟨b, o + i * 4 + 1, none⟩ = some (.int .i64 k) ∧ w'.cell? ⟨b, o + i * 4 + 2, none⟩ = some (.string d) ∧ w'.cell? ⟨b, o + i * 4 + 3, none⟩ = some (.bool x)) := fun w' hb => by
    obtain ⟨q0, q1, q2, q3⟩ := (HER.out i hil).below hb
    rw [hP] at q0
    rw [hk] at q1
    rw [hd] at q2
    rw [hx] at q3
    exact ⟨q0, q1, q2, q3⟩
   have hpi : pth E i = P.data.toList := by unfold pth; rw [hP]
   have HPI : Hid (pth E i = P.data.toList) := hpi
   have HEN : Hid (∀ W, Calls Tryz.prog 82 #[.agg #[.string P, .int .i64 k, .string d, .bool x]] W fun r w' => r = .returned (.bool (eOk (E i))) ∧ Below W.heap.size W w') := fun W => by
    have := entry_any (E i) hsm.1 hsm.2 W
    unfold eV at this
    rwa [hP, hk, hd, hx] at this
   obtain ⟨U, hU⟩ : ∃ U : ByteArray, (⟨(up P.data.toList).toArray⟩ : ByteArray) = U := ⟨_, rfl⟩
   have HUP : Hid (∀ W, Calls Tryz.prog 81 #[.string P] W fun e w' => e = .returned (.string U) ∧ Below W.heap.size W w') := fun W => by
    have := up_any P (by rw [← hP]; exact hsm.1) W
    rwa [hU] at this
   have hUl : U.data.toList = up (pth E i) := by rw [← hU, hpi]
   have HUE : Hid (U.toList.isEmpty = true ↔ up (pth E i) = []) := by
    show _ ↔ _
    rw [ByteArray.toList_eq, hUl]
    simp
   have HDR : Hid (∀ W, Below w.heap.size w W → Calls Tryz.prog 83 #[.slice (some ⟨b, o, none⟩) i cap, .string U] W fun e w' => e = .returned (.bool (dirB E i (up (pth E i)))) ∧ Below W.heap.size W w') := fun W hb => by
    have := dir_any E b o i cap U W (fun j hj => (HER.out j (by omega)).below hb) HTR.out.asc (by omega) (by omega)
    rwa [hUl] at this
   obtain ⟨c0, c1, c2, c3⟩ := HCI.out wr hbel
   clear hbel hP hk hd hx hpi hU hUl hsm
   cases heo : eOk (E i) with
   | false =>
    rw [heo] at HEN
    have HF : Hid (¬ Tr E n) := fun h => by have := h.1 i hil; rw [heo] at this; cases this
    clear heo
    go_wp2_with fail
    refine wq 24 (S := fun w' => w'.cell? ⟨b, o + i * 4, none⟩ = some (.string P) ∧ w'.cell? ⟨b, o + i * 4 + 1, none⟩ = some (.int .i64 k) ∧ w'.cell? ⟨b, o + i * 4 + 2, none⟩ = some (.string d) ∧ w'.cell? ⟨b, o + i * 4 + 3, none⟩ = some (.bool x)) (by kernel_rfl) (HCI.out _ (HBE.out.drew)) fun hHeld => ?_
    iterate 4 (refine un 24 rfl ?_;try simp only [aP])
    refine rq 4 rfl fun K hK => ?_
    go_simp
    (go_at_call 82; refine (HEN.out _).mono ?_; rintro e w2 ⟨rfl, hl2⟩; have hb2 : Below w.heap.size w w2 := HBE.out.drew.trans (hl2.mono HBE.out.size))
    try go_wp2_with fail
    refine hK.out _ _ (HCI.out _ (hb2)) (fun hHeld => ?_)
    clear hK K
    try simp only [aP]
    iterate 19 ((first|refine sn 24 rfl ?_|refine un 24 rfl ?_);try simp only [aP])
    refine dq ?_
    go_wp2_with fail
    go_ret
    exact ⟨by rw [treeB_no (fun h => HF.out h.2)]; first | done | rfl, hb2⟩
   | true =>
    rw [heo] at HEN
    have HEO : Hid (eOk (E i) = true) := heo
    clear heo
    by_cases hi1 : 0 < i
    ·have hi1' : (0 : Int) < (i : Int) := by omega
     obtain ⟨K, hKk⟩ : ∃ K, i = K + 1 := ⟨i - 1, by omega⟩
     have HKk : Hid (i = K + 1) := hKk
     have hK1 : (i : Int) - 1 = (K : Int) := by omega
     have hK2 : (K : Int) < (n : Int) := by omega
     have hK0 : (0 : Int) ≤ (K : Int) := by omega
     have hK3 : IntKind.i64.wrap ((i : Int) - 1) = (K : Int) := by rw [IntKind.wrap_i64]; omega
     have hK4 : IntKind.i64.wrap (K : Int) = (K : Int) := by rw [IntKind.wrap_i64]; omega
     obtain ⟨M, hM⟩ : ∃ M, (E K).path = M := ⟨_, rfl⟩
     have HPK : Hid (pth E K = M.data.toList) := by show _ = _; unfold pth; rw [hM]
     have HCK : Hid (∀ w' : World, Below w.heap.size w w' → w'.cell? ⟨b, o + i * 4, none⟩ = some (.string P) ∧ w'.cell? ⟨b, o + i * 4 + 1, none⟩ = some (.int .i64 k) ∧ w'.cell? ⟨b, o + i * 4 + 2, none⟩ = some (.string d) ∧ w'.cell? ⟨b, o + i * 4 + 3, none⟩ = some (.bool x) ∧ w'.cell? ⟨b, o + K * 4, none⟩ = some (.string M)) := fun w' hb => by
      obtain ⟨q0, q1, q2, q3⟩ := HCI.out w' hb
      have q4 := ((HER.out K (by omega)).below hb).1
      rw [hM] at q4
      exact ⟨q0, q1, q2, q3, q4⟩
     clear hM hKk
     cases hbl : Op.bytesLess M.toList P.toList with
     | true =>
      have HLT : Hid (0 < i → pth E (i - 1) < pth E i) := fun _ => by
       rw [show i - 1 = K from by have := HKk.out; omega, HPK.out, HPI.out]
       have := bl M P
       rw [hbl] at this
       simpa using this.symm
      go_wp2_with fail
      refine wq 24 (S := fun w' => w'.cell? ⟨b, o + i * 4, none⟩ = some (.string P) ∧ w'.cell? ⟨b, o + i * 4 + 1, none⟩ = some (.int .i64 k) ∧ w'.cell? ⟨b, o + i * 4 + 2, none⟩ = some (.string d) ∧ w'.cell? ⟨b, o + i * 4 + 3, none⟩ = some (.bool x) ∧ w'.cell? ⟨b, o + K * 4, none⟩ = some (.string M)) (by kernel_rfl) (HCK.out _ (HBE.out.drew)) fun hHeld => ?_
      iterate 4 (refine un 24 rfl ?_;try simp only [aP])
      refine rq 4 rfl fun K hK => ?_
      go_simp
      (go_at_call 82; refine (HEN.out _).mono ?_; rintro e w2 ⟨rfl, hl2⟩; have hb2 : Below w.heap.size w w2 := HBE.out.drew.trans (hl2.mono HBE.out.size))
      try go_wp2_with fail
      refine hK.out _ _ (HCK.out _ (hb2)) (fun hHeld => ?_)
      clear hK K
      try simp only [aP]
      iterate 19 (refine un 24 rfl ?_;try simp only [aP])
      refine dq ?_
      obtain ⟨z0, -, -, -⟩ := HCI.out _ hb2
      go_wp2_with (go_at_call 81; refine (HUP.out _).mono ?_; rintro e w3 ⟨rfl, hl3⟩; have hb3 : Below w.heap.size w w3 := hb2.trans (hl3.mono hb2.size); refine Hid.out ?_)
      refine Lib.hid ?_
      cases hue : U.toList.isEmpty with
      | true =>
       have HN : Hid (Tr E (i + 1)) := HTR.out.next HEO.out HLT.out (fun h => absurd (HUE.out.1 hue) h)
       go_wp2
       go_roundw
       case rel => exact ⟨i + 1, by omega, by go_num, HN.out, hb3⟩
       case measure => simp [intOf] <;> omega
      | false =>
       have HNE : Hid (up (pth E i) ≠ []) := fun h => by have := HUE.out.2 h; rw [hue] at this; cases this
       have HDI := Lib.hid (HDR.out w3 hb3)
       cases hdb : dirB E i (up (pth E i)) with
       | false =>
        rw [hdb] at HDI
        have HF : Hid (¬ Tr E n) := fun h => by
         rw [dirB_yes (h.2.2 i hil HNE.out)] at hdb
         cases hdb
        clear hdb
        go_wp2_with (go_at_call 83; refine HDI.out.mono ?_; rintro e w4 ⟨rfl, hl4⟩; have hb4 : Below w.heap.size w w4 := hb3.trans (hl4.mono hb3.size))
        go_ret
        exact ⟨by rw [treeB_no (fun h => HF.out h.2)]; first | done | rfl, hb4⟩
       | true =>
        rw [hdb] at HDI
        have HN : Hid (Tr E (i + 1)) := HTR.out.next HEO.out HLT.out (fun _ => dirB_iff.1 hdb)
        clear hdb
        go_wp2_with (go_at_call 83; refine HDI.out.mono ?_; rintro e w4 ⟨rfl, hl4⟩; have hb4 : Below w.heap.size w w4 := hb3.trans (hl4.mono hb3.size))
        go_roundw
        case rel => exact ⟨i + 1, by omega, by go_num, HN.out, hb4⟩
        case measure => simp [intOf] <;> omega
     | false =>
      have HF : Hid (¬ Tr E n) := fun h => by
       have h2 := h.2.1 K (by have := HKk.out; omega)
       rw [show K + 1 = i from HKk.out.symm, HPK.out, HPI.out] at h2
       have := bl M P
       rw [hbl] at this
       simp at this
       exact absurd h2 (List.not_lt.2 this)
      go_wp2_with fail
      refine wq 24 (S := fun w' => w'.cell? ⟨b, o + i * 4, none⟩ = some (.string P) ∧ w'.cell? ⟨b, o + i * 4 + 1, none⟩ = some (.int .i64 k) ∧ w'.cell? ⟨b, o + i * 4 + 2, none⟩ = some (.string d) ∧ w'.cell? ⟨b, o + i * 4 + 3, none⟩ = some (.bool x) ∧ w'.cell? ⟨b, o + K * 4, none⟩ = some (.string M)) (by kernel_rfl) (HCK.out _ (HBE.out.drew)) fun hHeld => ?_
      iterate 4 (refine un 24 rfl ?_;try simp only [aP])
      refine rq 4 rfl fun K hK => ?_
      go_simp
      (go_at_call 82; refine (HEN.out _).mono ?_; rintro e w2 ⟨rfl, hl2⟩; have hb2 : Below w.heap.size w w2 := HBE.out.drew.trans (hl2.mono HBE.out.size))
      try go_wp2_with fail
      refine hK.out _ _ (HCK.out _ (hb2)) (fun hHeld => ?_)
      clear hK K
      try simp only [aP]
      iterate 19 (refine un 24 rfl ?_;try simp only [aP])
      refine dq ?_
      go_wp2_with fail
      go_ret
      exact ⟨by rw [treeB_no (fun h => HF.out h.2)]; first | done | rfl, hb2⟩
    ·have hi1' : ¬ (0 : Int) < (i : Int) := by omega
     have HLT : Hid (0 < i → pth E (i - 1) < pth E i) := fun h => absurd h hi1
     go_wp2_with fail
     refine wq 24 (S := fun w' => w'.cell? ⟨b, o + i * 4, none⟩ = some (.string P) ∧ w'.cell? ⟨b, o + i * 4 + 1, none⟩ = some (.int .i64 k) ∧ w'.cell? ⟨b, o + i * 4 + 2, none⟩ = some (.string d) ∧ w'.cell? ⟨b, o + i * 4 + 3, none⟩ = some (.bool x)) (by kernel_rfl) (HCI.out _ (HBE.out.drew)) fun hHeld => ?_
     iterate 4 (refine un 24 rfl ?_;try simp only [aP])
     refine rq 4 rfl fun K hK => ?_
     go_simp
     (go_at_call 82; refine (HEN.out _).mono ?_; rintro e w2 ⟨rfl, hl2⟩; have hb2 : Below w.heap.size w w2 := HBE.out.drew.trans (hl2.mono HBE.out.size))
     try go_wp2_with fail
     refine hK.out _ _ (HCI.out _ (hb2)) (fun hHeld => ?_)
     clear hK K
     try simp only [aP]
     iterate 19 ((first|refine sn 24 rfl ?_|refine un 24 rfl ?_);try simp only [aP])
     refine dq ?_
     obtain ⟨z0, -, -, -⟩ := HCI.out _ hb2
     go_wp2_with (go_at_call 81; refine (HUP.out _).mono ?_; rintro e w3 ⟨rfl, hl3⟩; have hb3 : Below w.heap.size w w3 := hb2.trans (hl3.mono hb2.size); refine Hid.out ?_)
     refine Lib.hid ?_
     cases hue : U.toList.isEmpty with
     | true =>
      have HN : Hid (Tr E (i + 1)) := HTR.out.next HEO.out HLT.out (fun h => absurd (HUE.out.1 hue) h)
      go_wp2
      go_roundw
      case rel => exact ⟨i + 1, by omega, by go_num, HN.out, hb3⟩
      case measure => simp [intOf] <;> omega
     | false =>
      have HNE : Hid (up (pth E i) ≠ []) := fun h => by have := HUE.out.2 h; rw [hue] at this; cases this
      have HDI := Lib.hid (HDR.out w3 hb3)
      cases hdb : dirB E i (up (pth E i)) with
      | false =>
       rw [hdb] at HDI
       have HF : Hid (¬ Tr E n) := fun h => by
        rw [dirB_yes (h.2.2 i hil HNE.out)] at hdb
        cases hdb
       clear hdb
       go_wp2_with (go_at_call 83; refine HDI.out.mono ?_; rintro e w4 ⟨rfl, hl4⟩; have hb4 : Below w.heap.size w w4 := hb3.trans (hl4.mono hb3.size))
       go_ret
       exact ⟨by rw [treeB_no (fun h => HF.out h.2)]; first | done | rfl, hb4⟩
      | true =>
       rw [hdb] at HDI
       have HN : Hid (Tr E (i + 1)) := HTR.out.next HEO.out HLT.out (fun _ => dirB_iff.1 hdb)
       clear hdb
       go_wp2_with (go_at_call 83; refine HDI.out.mono ?_; rintro e w4 ⟨rfl, hl4⟩; have hb4 : Below w.heap.size w w4 := hb3.trans (hl4.mono hb3.size))
       go_roundw
       case rel => exact ⟨i + 1, by omega, by go_num, HN.out, hb4⟩
       case measure => simp [intOf] <;> omega
  ·have hil' : ¬ (i : Int) < (n : Int) := by omega
   obtain rfl : i = n := by omega
   clear hbel
   go_wp2
   go_ret
   exact ⟨by rw [treeB_yes (by omega) HTR.out]; first | done | rfl, HBE.out⟩
end Go.Proofs.YthbgpfjbfkiljaaGreatDoor.tt

set_option linter.unusedVariables false
set_option linter.unusedSimpArgs false
set_option maxRecDepth 100000
set_option maxHeartbeats 16000000
namespace Go.Proofs.YthbgpfjbfkiljaaGreatDoor.tt
open Go.ChangeShapes Go.WideShapes Go.ChangeAt Go.RowKit Go.Deep
theorem lt_tri (p q : List UInt8) : p < q ∨ p = q ∨ q < p := by
 by_cases h : p < q
 ·exact .inl h
 ·by_cases h2 : q < p
  ·exact .inr (.inr h2)
  ·exact .inr (.inl (List.le_antisymm (List.not_lt.1 h2) (List.not_lt.1 h)))
theorem bl_yes {x y : ByteArray} (h : x.data.toList < y.data.toList) : Op.bytesLess x.toList y.toList = true := by rw [bl]; simpa using h
theorem bl_no {x y : ByteArray} (h : ¬ x.data.toList < y.data.toList) : Op.bytesLess x.toList y.toList = false := by rw [bl]; simpa using h
structure Rk (E : Nat → En) (n : Nat) (q : List UInt8) (a : Nat) : Prop where
 le : a ≤ n
 lo : ∀ j, j < a → pth E j < q
 hi : ∀ j, a ≤ j → j < n → ¬ pth E j < q
def Is (E : Nat → En) (n : Nat) (q : List UInt8) (a : Nat) : Prop := a < n ∧ pth E a = q
noncomputable def isB (E : Nat → En) (n : Nat) (q : List UInt8) (a : Nat) : Bool := @decide (Is E n q a) (Classical.propDecidable _)
theorem isB_yes {E : Nat → En} {n a : Nat} {q : List UInt8} (h : Is E n q a) : isB E n q a = true := by unfold isB; exact @decide_eq_true _ (Classical.propDecidable _) h
theorem isB_iff {E : Nat → En} {n a : Nat} {q : List UInt8} : isB E n q a = true ↔ Is E n q a := by unfold isB; exact @decide_eq_true_iff _ (Classical.propDecidable _)
def Und (x d : List UInt8) : Prop := (d ++ [47]) <+: x
instance (x d : List UInt8) : Decidable (Und x d) := inferInstanceAs (Decidable ((d ++ [47]) <+: x))
def Full (E : Nat → En) (n : Nat) (p : List UInt8) : Prop := ∃ j, j < n ∧ Und (pth E j) p
theorem und_at {x d : List UInt8} (h : Und x d) : x[d.length]? = some 47 ∧ x.take d.length = d ∧ d.length < x.length := by
 obtain ⟨t, rfl⟩ := h
 refine ⟨by simp, by simp, by simp⟩
theorem up_of {x : List UInt8} {k : Nat} (h : lst x = some k) : up x = x.take k := by unfold up; rw [h]
theorem lst_lt {x : List UInt8} {k : Nat} (h : lst x = some k) : k < x.length := (List.getElem?_eq_some_iff.1 (lst_some h).1).1
theorem up_ne {x : List UInt8} {k : Nat} (h : lst x = some k) (hk : 0 < k) : up x ≠ [] := fun e => by
 rw [up_of h] at e
 have h1 := congrArg List.length e
 rw [List.length_take, List.length_nil] at h1
 have := lst_lt h
 omega
theorem full_dir {E : Nat → En} {n : Nat} {p : List UInt8} (hT : Tr E n) (hp : p ≠ []) : ∀ (m j : Nat), j ≤ m → j < n → Und (pth E j) p → Dir E n p := by
 intro m
 induction m with
 | zero =>
  intro j hj hjn hu
  obtain rfl : j = 0 := by omega
  obtain ⟨h1, h2, h3⟩ := und_at hu
  cases hl : lst (pth E 0) with
  | none => exact absurd h1 (lst_none hl _)
  | some k =>
   have hk : p.length ≤ k := Nat.le_of_not_lt fun h => (lst_some hl).2 _ h h1
   have hpl : 0 < p.length := List.length_pos_iff.2 hp
   have hne : up (pth E 0) ≠ [] := up_ne hl (by omega)
   obtain ⟨i, hi, _⟩ := hT.2.2 0 hjn hne
   omega
 | succ m ih =>
  intro j hj hjn hu
  obtain ⟨h1, h2, h3⟩ := und_at hu
  cases hl : lst (pth E j) with
  | none => exact absurd h1 (lst_none hl _)
  | some k =>
   have hk : p.length ≤ k := Nat.le_of_not_lt fun h => (lst_some hl).2 _ h h1
   have hkl := lst_lt hl
   have hpl : 0 < p.length := List.length_pos_iff.2 hp
   have hne : up (pth E j) ≠ [] := up_ne hl (by omega)
   obtain ⟨i, hi, hpi, hki⟩ := hT.2.2 j hjn hne
   rw [up_of hl] at hpi
   by_cases hkp : k = p.length
   ·rw [hkp, h2] at hpi
    exact ⟨i, by omega, hpi, hki⟩
   ·refine ih i (by omega) (by omega) ?_
    rw [hpi]
    obtain ⟨t, ht⟩ := hu
    refine ⟨t.take (k - (p.length + 1)), ?_⟩
    rw [← ht]
    have hlen : (p ++ [47]).length = p.length + 1 := by simp
    have htk : (p ++ [47]).take k = p ++ [47] := List.take_of_length_le (by omega)
    rw [List.take_append, htk, hlen]
theorem full_is {E : Nat → En} {n : Nat} {p : List UInt8} (hT : Tr E n) (hp : p ≠ []) (h : Full E n p) : Dir E n p := by
 obtain ⟨j, hj, hu⟩ := h
 exact full_dir hT hp j j (Nat.le_refl _) hj hu
theorem path_ne {e : En} (h : eOk e = true) : e.path.data.toList ≠ [] := fun hl => by
 unfold eOk pOk at h
 rw [hl, pk, name_nil] at h
 simp at h
def Tk (E : Nat → En) (n : Nat) (e : En) (a : Nat) : Prop := eOk e = true ∧ (up e.path.data.toList ≠ [] → Dir E n (up e.path.data.toList)) ∧ (e.kind = 1 ∨ ¬ Full E n e.path.data.toList) ∧ (Is E n e.path.data.toList a ∨ n < 500)
noncomputable def tkB (E : Nat → En) (n : Nat) (e : En) (a : Nat) : Bool := @decide (Tk E n e a) (Classical.propDecidable _)
theorem tkB_yes {E : Nat → En} {n a : Nat} {e : En} (h : Tk E n e a) : tkB E n e a = true := by unfold tkB; exact @decide_eq_true _ (Classical.propDecidable _) h
theorem tkB_no {E : Nat → En} {n a : Nat} {e : En} (h : ¬ Tk E n e a) : tkB E n e a = false := by unfold tkB; exact @decide_eq_false _ (Classical.propDecidable _) h
theorem tkB_iff {E : Nat → En} {n a : Nat} {e : En} : tkB E n e a = true ↔ Tk E n e a := by unfold tkB; exact @decide_eq_true_iff _ (Classical.propDecidable _)
noncomputable def ptN (E : Nat → En) (n : Nat) (e : En) (a : Nat) : Nat := if isB E n e.path.data.toList a = true then n else n + 1
noncomputable def ptF (E : Nat → En) (n : Nat) (e : En) (a : Nat) : Nat → En := fun k => if k < a then E k else if k = a then e else if isB E n e.path.data.toList a = true then E k else E (k - 1)
theorem pre_take {p s : List UInt8} : p <+: s ↔ p.length ≤ s.length ∧ s.take p.length = p := by
 constructor
 ·rintro ⟨t, rfl⟩
  exact ⟨by simp, by simp⟩
 ·rintro ⟨_, h⟩
  exact ⟨s.drop p.length, by have := List.take_append_drop p.length s; rwa [h] at this⟩
noncomputable def fullB (E : Nat → En) (n : Nat) (p : List UInt8) : Bool := @decide (Full E n p) (Classical.propDecidable _)
theorem fullB_yes {E : Nat → En} {n : Nat} {p : List UInt8} (h : Full E n p) : fullB E n p = true := by unfold fullB; exact @decide_eq_true _ (Classical.propDecidable _) h
theorem fullB_no {E : Nat → En} {n : Nat} {p : List UInt8} (h : ¬ Full E n p) : fullB E n p = false := by unfold fullB; exact @decide_eq_false _ (Classical.propDecidable _) h
theorem fullB_iff {E : Nat → En} {n : Nat} {p : List UInt8} : fullB E n p = true ↔ Full E n p := by unfold fullB; exact @decide_eq_true_iff _ (Classical.propDecidable _)
theorem treeB_is {E : Nat → En} {n : Nat} (h : treeB E n = true) : n ≤ 500 ∧ Tr E n := by unfold treeB at h; exact (@decide_eq_true_iff _ (Classical.propDecidable _)).1 h
def BxE (W : World) (eb : Nat) (P d : ByteArray) (k : Int) (x : Bool) : Prop := W.cell? ⟨eb, 0, none⟩ = some (.string P) ∧ W.cell? ⟨eb, 1, none⟩ = some (.int .i64 k) ∧ W.cell? ⟨eb, 2, none⟩ = some (.string d) ∧ W.cell? ⟨eb, 3, none⟩ = some (.bool x)
theorem BxE.below {W W' : World} {eb : Nat} {P d : ByteArray} {k : Int} {x : Bool} (h : BxE W eb P d k x) (hb : Below W.heap.size W W') : BxE W' eb P d k x := by
 have hl : eb < W.heap.size := World.block_lt_of_cell? W ⟨eb, 0, none⟩ h.1
 have c : ∀ j, W'.cell? ⟨eb, j, none⟩ = W.cell? ⟨eb, j, none⟩ := fun j => hb.cell (p := ⟨eb, j, none⟩) hl
 exact ⟨(c _).trans h.1, (c _).trans h.2.1, (c _).trans h.2.2.1, (c _).trans h.2.2.2⟩
theorem bxE_new (w : World) (T : Nat) (P d : ByteArray) (k : Int) (x : Bool) : BxE (w.alloc (.cells #[.string P, .int .i64 k, .string d, .bool x] T)) w.heap.size P d k x := by
 have h : ∀ j, (w.alloc (.cells #[.string P, .int .i64 k, .string d, .bool x] T)).cell? ⟨w.heap.size, j, none⟩ = (#[Value.string P, .int .i64 k, .string d, .bool x] : Array Value)[j]? := fun j => World.cell?_alloc_new w _ _ j
 refine ⟨?_, ?_, ?_, ?_⟩ <;> rw [h] <;> rfl
theorem rk_ex {E : Nat → En} {q : List UInt8} : ∀ (n : Nat), Asc E n → ∃ a, Rk E n q a
 | 0, _ => ⟨0, Nat.le_refl _, fun j h => by omega, fun j h h2 => by omega⟩
 | n + 1, hA => by
  obtain ⟨a, ha⟩ := rk_ex n (fun i j h h2 => hA i j h (by omega))
  by_cases h : pth E n < q
  ·refine ⟨n + 1, Nat.le_refl _, fun j hj => ?_, fun j h1 h2 => by omega⟩
   rcases Nat.lt_or_ge j n with h1 | h1
   ·exact List.lt_trans (hA j n h1 (by omega)) h
   ·obtain rfl : j = n := by omega
    exact h
  ·refine ⟨a, by have := ha.le; omega, ha.lo, fun j h1 h2 => ?_⟩
   rcases Nat.lt_or_ge j n with h3 | h3
   ·exact ha.hi j h1 h3
   ·obtain rfl : j = n := by omega
    exact h
noncomputable def puF (E : Nat → En) (n : Nat) (e : En) (a : Nat) : Nat → En := if tkB E n e a = true then ptF E n e a else E
theorem rowE_mono {base base' : Nat} {w : World} {v : Value} {n : Nat} {E : Nat → En} (h : RowE base w v n E) (hb : base' ≤ base) : RowE base' w v n E := by
 obtain ⟨g, cap, f, rfl, h1, h2, h3, h4, h5⟩ := h
 exact ⟨g, cap, f, rfl, Nat.le_trans hb h1, h2, h3, h4, h5⟩
theorem under_any (s d : ByteArray) (hs : s.size ≤ 1048576) (hd : d.size ≤ 1048576) (w : World) :
  Calls Tryz.prog 117 #[.string s, .string d] w fun e w' => e = .returned (.bool (decide (Und s.data.toList d.data.toList))) ∧ w' = w := by
 obtain ⟨r, hr⟩ : ∃ r, decide (Und s.data.toList d.data.toList) = r := ⟨_, rfl⟩
 rw [hr]
 have hsl : s.data.toList.length = s.size := by simp
 have hdl : d.data.toList.length = d.size := by simp
 by_cases hle : d.size < s.size
 ·have hle' : (d.size : Int) < (s.size : Int) := by omega
  have hle2 : (d.size : Int) + 1 ≤ (s.size : Int) := by omega
  have heq : ((s.extract 0 (d.size + 1)).toList == (d.toList ++ [47])) = r := by
   rw [← hr, take_ext hle, ByteArray.toList_eq, ByteArray.toList_eq, Bool.eq_iff_iff, decide_eq_true_iff]
   unfold Und
   rw [pre_take, List.length_append, hdl, hsl]
   simp only [List.length_cons, List.length_nil, Nat.zero_add, beq_iff_eq]
   exact ⟨fun h => ⟨by omega, h⟩, fun h => h.2⟩
  have heq2 : ((s.extract 0 (d.size + 1)).toList == (d ++ ⟨#[47]⟩).toList) = r := by
   rw [← heq]
   congr 1
   rw [ByteArray.toList_eq, ByteArray.toList_eq]
   simp
  clear hr hsl hdl
  go_enter Tryz.func117, Tryz.ntmps117
  go_wp2
  go_ret
  first | exact ⟨rfl, rfl⟩ | exact ⟨by rw [heq], rfl⟩ | exact ⟨by rw [heq2], rfl⟩ | exact ⟨by simp [heq], rfl⟩ | exact ⟨by simp [heq2], rfl⟩
 ·have hle' : ¬ (d.size : Int) < (s.size : Int) := by omega
  have e : r = false := by
   rw [← hr, decide_eq_false_iff_not]
   intro h
   have := (und_at h).2.2
   omega
  subst e
  clear hr hsl hdl
  go_enter Tryz.func117, Tryz.ntmps117
  go_wp2
  go_ret
  exact ⟨rfl, rfl⟩
theorem full_any (E : Nat → En) (b o n cap : Nat) (P : ByteArray) (w : World) (hR : EnR w b o n E) (hS : SmE n E) (hn : n ≤ 1048576) (hPs : P.size ≤ 1048576) :
  Calls Tryz.prog 84 #[.slice (some ⟨b, o, none⟩) n cap, .string P] w fun e w' => e = .returned (.bool (fullB E n P.data.toList)) ∧ w' = w := by
 have HR : Hid (EnR w b o n E) := hR
 have HC : Hid (∀ p W, p.size ≤ 1048576 → Calls Tryz.prog 117 #[.string p, .string P] W fun e w' => e = .returned (.bool (decide (Und p.data.toList P.data.toList))) ∧ w' = W) := fun p W hp => under_any p P hp hPs W
 have HS : Hid (SmE n E) := hS
 clear hR hS
 go_enter Tryz.func84, Tryz.ntmps84
 go_wp2
 go_loopw [5] (fun x wr => ∃ i : Nat, i ≤ n ∧ x = .int .i64 (i : Int) ∧ (∀ j, j < i → ¬ Und (pth E j) P.data.toList) ∧ wr = w) (fun x _ => n - (intOf x).toNat)
 case atStart => exact ⟨0, Nat.zero_le _, rfl, fun j h => by omega, rfl⟩
 case round =>
  obtain ⟨i, hi, rfl, h1, rfl⟩ := hrel
  have H1 : Hid (∀ j, j < i → ¬ Und (pth E j) P.data.toList) := h1
  clear h1
  by_cases hin : i < n
  ·have hin' : (i : Int) < (n : Int) := by omega
   have hi0 : (0 : Int) ≤ (i : Int) := by omega
   obtain ⟨c0, -, -, -⟩ := HR.out i hin
   have HPM : Hid (pth E i = (E i).path.data.toList) := rfl
   have hsm := (HS.out i hin).1
   obtain ⟨M, hM⟩ : ∃ M, (E i).path = M := ⟨_, rfl⟩
   rw [hM] at c0 HPM hsm
   have HCM : Hid (Calls Tryz.prog 117 #[.string M, .string P] wr fun e w' => e = .returned (.bool (decide (Und M.data.toList P.data.toList))) ∧ w' = wr) := HC.out M wr hsm
   clear hM
   by_cases hu : Und M.data.toList P.data.toList
   ·rw [decide_eq_true hu] at HCM
    have HF : Hid (fullB E n P.data.toList = true) := fullB_yes ⟨i, hin, by rw [HPM.out]; exact hu⟩
    clear hu
    go_wp2_with (go_at_call 117; refine HCM.out.mono ?_; rintro e w1 ⟨rfl, rfl⟩)
    go_ret
    exact ⟨by rw [HF.out]; rfl, rfl⟩
   ·rw [decide_eq_false hu] at HCM
    have HN : Hid (∀ j, j < i + 1 → ¬ Und (pth E j) P.data.toList) := fun j hj => by
     rcases Nat.lt_or_ge j i with h | h
     ·exact H1.out j h
     ·obtain rfl : j = i := by omega
      rw [HPM.out]; exact hu
    clear hu
    go_wp2_with (go_at_call 117; refine HCM.out.mono ?_; rintro e w1 ⟨rfl, rfl⟩)
    go_roundw
    case rel => exact ⟨i + 1, by omega, by go_num, HN.out, by first | rfl | trivial⟩
    case measure => simp [intOf] <;> omega
  ·have hin' : ¬ (i : Int) < (n : Int) := by omega
   have HF : Hid (fullB E n P.data.toList = false) := fullB_no fun ⟨j, hj, hu⟩ => H1.out j (by omega) hu
   go_wp2
   go_ret
   exact ⟨by rw [HF.out]; rfl, rfl⟩
end Go.Proofs.YthbgpfjbfkiljaaGreatDoor.tt

set_option linter.unusedVariables false
set_option linter.unusedSimpArgs false
set_option maxRecDepth 100000
set_option maxHeartbeats 16000000
namespace Go.Proofs.YthbgpfjbfkiljaaGreatDoor.sr
open Go.ChangeShapes Go.WideShapes Go.ChangeAt Go.RowKit Go.Deep
theorem own_none (w : World) (e : TypeId) : (w.alloc (.cells #[] e)).ownsRow w.heap.size e 1 (.slice (some ⟨w.heap.size, 0, none⟩) 0 0) 0 [] := World.ownsRow_made w #[] 0 (Nat.le_refl _) (by decide) rfl
def fadd : List (List UInt8) → List UInt8 → List (List UInt8)
 | [], s => [s]
 | x :: r, s => if Op.bytesLess x s = true then x :: fadd r s else if x = s then x :: r else s :: x :: r
theorem StrR.own {w : World} {base : Nat} {v : Value} {xs : List (List UInt8)} (h : w.ownsRow base 9 1 v xs.length (xs.map strL)) (hpos : 0 < xs.length) : StrR w v xs := StrR.own' h (by
 rintro rfl
 rcases h.2 with ⟨_, h2⟩ | ⟨g, cap, cur, h2, _⟩
 ·omega
 ·cases h2)
theorem fadd_len (s : List UInt8) : ∀ (xs : List (List UInt8)), xs.length ≤ (fadd xs s).length ∧ (fadd xs s).length ≤ xs.length + 1
 | [] => by simp [fadd]
 | x :: r => by
  have := fadd_len s r
  unfold fadd
  split
  ·simp; omega
  ·split <;> simp
theorem fadd_at {s : List UInt8} : ∀ {xs : List (List UInt8)} {k : Nat}, k ≤ xs.length → (∀ i, i < k → Op.bytesLess (xAt xs i) s = true) → (k = xs.length ∨ Op.bytesLess (xAt xs k) s = false) →
  fadd xs s = if k < xs.length ∧ xAt xs k = s then xs else xs.take k ++ [s] ++ xs.drop k
 | [], k, hk, _, _ => by
  obtain rfl : k = 0 := by simpa using hk
  simp [fadd]
 | x :: r, 0, hk, _, h => by
  have hx : Op.bytesLess x s = false := by
   rcases h with h | h
   ·simp at h
   ·simpa [xAt] using h
  unfold fadd
  rw [if_neg (by simp [hx])]
  simp [xAt]
 | x :: r, k + 1, hk, ha, h => by
  have hx : Op.bytesLess x s = true := by simpa [xAt] using ha 0 (by omega)
  have ih := fadd_at (s := s) (xs := r) (k := k) (by simp at hk; omega) (fun i hi => by simpa [xAt] using ha (i + 1) (by omega)) (by
   rcases h with h | h
   ·left; simpa using h
   ·right; simpa [xAt] using h)
  unfold fadd
  rw [if_pos hx, ih]
  have e : xAt (x :: r) (k + 1) = xAt r k := by simp [xAt]
  by_cases hh : k < r.length ∧ xAt r k = s
  ·rw [if_pos hh, if_pos ⟨by simp; omega, by rw [e]; exact hh.2⟩]
  ·rw [if_neg hh, if_neg (fun h2 => hh ⟨by have := h2.1; simp at this; omega, by rw [← e]; exact h2.2⟩)]
   simp
theorem step_row {base : Nat} {W : World} {ops : Array Oper} {o : Oper} {a : Act} {K : Act → World → Prop} {Q : Exit → Act → World → Prop} {E : Prop} (hgd : o.guard = none) (s x : Operand)
  (ho : o.op = .call { callee := .builtin .append, args := #[s, x], argTypes := #[28, 28] }) (v : Value) (l : List (List UInt8)) (hs : a.eval s = v) (hown : W.ownsRow base 9 1 v l.length (l.map strL)) (hb : base ≤ W.heap.size) (ad : Addr) (m c : Nat) (news : List (List UInt8))
  (hx : a.eval x = .slice (some ad) m c) (hm : news.length = m) (hnews : ∀ j u, (news.map strL)[j]? = some u → W.cell? (ad.add j) = some u) (hlen : l.length + m ≤ 1000000) (h : ∀ v' w', w'.ownsRow base 9 1 v' (l ++ news).length ((l ++ news).map strL) → W.grownBy w' v.ownBlock → K (a.put o.dst v') w') :
  if Region.wanted o (yielded ops a.tmps) = true then Oper.wp Tryz.prog o a W K Q else E := by
 have hw : Region.wanted o (yielded ops a.tmps) = true := by simp [Region.wanted, hgd]
 rw [if_pos hw]
 obtain ⟨i0, hi, hz0, hz1, hz2⟩ := info_parts info9
 refine wp_append_own W s x 28 ho base 9 i0 _ 1 16 Tryz.underlying28 hi hz0 hz1 hz2 rfl (by omega) v l.length (l.map strL) hs hown ad m c (news.map strL) hx (by simpa using hm) hnews (strL_one _) (by unfold maxLen; omega) (by omega) hb ?_
 intro v' w' h1 h2 _
 exact h _ _ (by rw [List.length_append, List.map_append, hm]; exact h1) h2
theorem one_atb (w : World) (s : ByteArray) : ∀ j u, ([s.data.toList].map strL)[j]? = some u → (w.alloc (.cells #[.string s] 9)).cell? ((⟨w.heap.size, 0, none⟩ : Addr).add j) = some u := by
 rw [List.map_singleton, strL_of]
 exact one_new w _ 9
theorem row_newsk {w : World} {bb off k n : Nat} {xs : List (List UInt8)} (hc : ∀ i x, xs[i]? = some x → w.cell? ⟨bb, off + i, none⟩ = some (strL x)) : ∀ j u, ((xs.take k).map strL)[j]? = some u → w.cell? ((⟨bb, off, none⟩ : Addr).add j) = some u := by
 intro j u h
 rw [List.getElem?_map, Option.map_eq_some_iff] at h
 obtain ⟨x, hx, rfl⟩ := h
 rw [List.getElem?_take] at hx
 split at hx
 ·rw [addr_add]
  exact hc j x hx
 ·cases hx
theorem row_drop {w : World} {bb off k cap : Nat} {xs : List (List UInt8)} (hc : ∀ i x, xs[i]? = some x → w.cell? ⟨bb, off + i, none⟩ = some (strL x)) (hk : k ≤ xs.length) (hcap : xs.length ≤ cap) {a1 : Addr} (ha : (if cap = k then some (⟨bb, off, none⟩ : Addr) else some ⟨bb, off + k, none⟩) = some a1) : ∀ j u, ((xs.drop k).map strL)[j]? = some u → w.cell? (a1.add j) = some u := by
 intro j u h
 rw [List.getElem?_map, Option.map_eq_some_iff] at h
 obtain ⟨x, hx, rfl⟩ := h
 rw [List.getElem?_drop] at hx
 have hlt := (List.getElem?_eq_some_iff.1 hx).1
 rw [if_neg (by omega)] at ha
 obtain rfl := Option.some.inj ha
 rw [addr_add, Nat.add_assoc]
 exact hc _ x hx
theorem sadd_any (xs : List (List UInt8)) (v : Value) (s : ByteArray) (w : World) (hR : StrR w v xs) (hn : xs.length ≤ 4000) :
  Calls Tryz.prog 148 #[v, .string s] w fun e w' => ∃ v', e = .returned v' ∧ StrR w' v' (fadd xs s.data.toList) ∧ Below w.heap.size w w' := by
 have HR : Hid (StrR w v xs) := hR
 obtain ⟨bb, off, cap, rfl, h1, h2, hc⟩ := hR
 have HC : Hid (∀ i, i < xs.length → w.cell? ⟨bb, off + i, none⟩ = some (strL (xAt xs i))) := fun i hi => hc i _ (xAt_some hi)
 have HCC := Lib.hid hc
 unfold maxLen at h2
 clear hc
 go_enter Tryz.func148, Tryz.ntmps148
 go_wp2
 go_loopw [5] (fun x wr => ∃ (k : Nat), k ≤ xs.length ∧ x = .int .i64 (k : Int) ∧ (∀ j, j < k → Op.bytesLess (xAt xs j) s.data.toList = true) ∧ wr = w) (fun x _ => xs.length - (intOf x).toNat)
 case atStart => exact ⟨0, Nat.zero_le _, rfl, fun j h => by omega, rfl⟩
 case round =>
  obtain ⟨k, hk, rfl, hbe, rfl⟩ := hrel
  have HBE := Lib.hid hbe
  clear hbe
  by_cases h : k < xs.length
  ·have h' : (k : Int) < (xs.length : Int) := by omega
   have ce := HC.out k h
   rw [strL] at ce
   obtain ⟨u, hu⟩ : ∃ u : ByteArray, (⟨(xAt xs k).toArray⟩ : ByteArray) = u := ⟨_, rfl⟩
   rw [hu] at ce
   have HU : Hid (u.toList = xAt xs k) := by show _ = _; rw [← hu, toL]
   clear hu
   cases hl : Op.bytesLess u.toList s.toList with
   | true =>
    have HX : Hid (Op.bytesLess (xAt xs k) s.data.toList = true) := by show _ = _; rw [← HU.out, ← ByteArray.toList_eq]; exact hl
    go_wp2
    go_roundw
    case rel => exact ⟨k + 1, by omega, by go_num, fun j hj => by
     rcases Nat.lt_or_ge j k with h | h
     ·exact HBE.out j h
     ·obtain rfl : j = k := by omega
      exact HX.out, by first | rfl | trivial⟩
    case measure => simp [intOf]; omega
   | false =>
    have HF := fadd_at (s := s.data.toList) hk HBE.out (.inr (by rw [← HU.out, ← ByteArray.toList_eq]; exact hl))
    cases he : (u.toList == s.toList) with
    | true =>
     have HY : Hid (fadd xs s.data.toList = xs) := by
      show _ = _
      rw [HF, if_pos ⟨h, by rw [← HU.out, ← ByteArray.toList_eq]; simpa using he⟩]
     clear HF
     go_wp2
     go_ret
     exact ⟨_, rfl, by rw [HY.out]; exact HR.out, Below.refl _ _⟩
    | false =>
     have HY : Hid (fadd xs s.data.toList = xs.take k ++ [s.data.toList] ++ xs.drop k) := by
      show _ = _
      rw [HF, if_neg]
      rintro ⟨_, e⟩
      rw [← HU.out, ← ByteArray.toList_eq] at e
      simp [e] at he
     clear HF
     obtain ⟨a1, ha1⟩ : ∃ a1 : Addr, (if cap = k then some (⟨bb, off, none⟩ : Addr) else some ⟨bb, off + k, none⟩) = some a1 := by split <;> exact ⟨_, rfl⟩
     have k1 : (k : Int) ≤ (cap : Int) := by omega
     have k2 : (k : Int) ≤ (xs.length : Int) := by omega
     have HCB : Hid (∀ w', Below wr.heap.size wr w' → ∀ i x, xs[i]? = some x → w'.cell? ⟨bb, off + i, none⟩ = some (strL x)) := fun w' hb i x hx => (hb.cell (p := ⟨bb, _, none⟩) (World.block_lt_of_cell? _ _ (HCC.out i x hx))).trans (HCC.out i x hx)
     have HA1 := Lib.hid ha1
     have HO0 := own_none wr 9
     have HB0 : Below wr.heap.size wr (wr.alloc (.cells #[] 9)) := (Below.refl _ _).alloc (Nat.le_refl _) _
     have HO0' : Hid ((wr.alloc (.cells #[] 9)).ownsRow wr.heap.size 9 1 (.slice (some ⟨wr.heap.size, 0, none⟩) 0 0) 0 []) := HO0
     clear HO0
     go_wp2_with (first
      | (at_builtin; refine app_own _ rfl _ _ 28 rfl wr.heap.size 9 (.string ⟨#[]⟩) 16 Tryz.underlying28 info9 rfl _ _ _ rfl HO0'.out ⟨bb, off, none⟩ k cap ((xs.take k).map strL) rfl (by simp only [List.length_map, List.length_take]; omega) (row_newsk (n := 0) (HCB.out _ HB0)) (strL_one _) (by unfold maxLen; omega) (by omega) (by simp) ?_)
      | go_in)
     intro v1 w1 hown1 hg1
     have B1 : Below wr.heap.size wr w1 := below_grown HB0 HO0'.out hg1 (by simp)
     have hown1' : w1.ownsRow wr.heap.size 9 1 v1 (xs.take k).length ((xs.take k).map strL) := by
      have e : (xs.take k).length = 0 + k := by simp; omega
      rw [e]
      simpa using hown1
     have HO1 : Hid ((w1.alloc (.cells #[.string s] 9)).drew.ownsRow wr.heap.size 9 1 v1 (xs.take k).length ((xs.take k).map strL)) := (hown1'.alloc _).drew
     have B1d : Below wr.heap.size wr (w1.alloc (.cells #[.string s] 9)).drew := (B1.alloc B1.size _).drew
     have htk : (xs.take k).length = k := by simp; omega
     clear hown1 hown1' hg1
     go_wp2_with fail
     go_region_held3 (fun _ => True)
      (trivial)
      (first
       | ((refine step_row (by rfl) _ _ (by rfl) v1 (xs.take k) (by rfl) HO1.out B1d.size ⟨w1.heap.size, 0, none⟩ 1 1 [s.data.toList] (by rfl) (by rfl) (fun j u h => one_atb w1 s j u h) (by rw [htk]; omega) ?_; intro v2 w2 hown2 hg2; have B2 := below_grown B1d HO1.out hg2 B1d.size))
       | ((refine step_row (by rfl) _ _ (by rfl) v2 (xs.take k ++ [s.data.toList]) (by rfl) hown2 B2.size a1 (xs.length - k) (cap - k) (xs.drop k) (by rfl) (by simp) (row_drop (HCB.out _ B2) hk h1 HA1.out) (by rw [List.length_append, htk]; simp; omega) ?_; intro v3 w3 hown3 hg3; have B3 := below_grown B2 hown2 hg3 B2.size)))
     go_wp2_with fail
     go_ret
     refine ⟨_, rfl, ?_, B3⟩
     rw [HY.out]
     exact StrR.own hown3 (by simp only [List.length_append, List.length_cons]; omega)
  ·have h' : ¬ (k : Int) < (xs.length : Int) := by omega
   obtain rfl : k = xs.length := by omega
   have HF := fadd_at (s := s.data.toList) hk HBE.out (.inl rfl)
   have HY : Hid (fadd xs s.data.toList = xs.take xs.length ++ [s.data.toList] ++ xs.drop xs.length) := by
    show _ = _
    rw [HF, if_neg (by omega)]
   clear HF
   obtain ⟨a1, ha1⟩ : ∃ a1 : Addr, (if cap = xs.length then some (⟨bb, off, none⟩ : Addr) else some ⟨bb, off + xs.length, none⟩) = some a1 := by split <;> exact ⟨_, rfl⟩
   have k1 : (xs.length : Int) ≤ (cap : Int) := by omega
   have HCB : Hid (∀ w', Below wr.heap.size wr w' → ∀ i x, xs[i]? = some x → w'.cell? ⟨bb, off + i, none⟩ = some (strL x)) := fun w' hb i x hx => (hb.cell (p := ⟨bb, _, none⟩) (World.block_lt_of_cell? _ _ (HCC.out i x hx))).trans (HCC.out i x hx)
   have HA1 := Lib.hid ha1
   have HO0 := own_none wr 9
   have HB0 : Below wr.heap.size wr (wr.alloc (.cells #[] 9)) := (Below.refl _ _).alloc (Nat.le_refl _) _
   have HO0' : Hid ((wr.alloc (.cells #[] 9)).ownsRow wr.heap.size 9 1 (.slice (some ⟨wr.heap.size, 0, none⟩) 0 0) 0 []) := HO0
   clear HO0
   go_wp2_with (first
    | (at_builtin; refine app_own _ rfl _ _ 28 rfl wr.heap.size 9 (.string ⟨#[]⟩) 16 Tryz.underlying28 info9 rfl _ _ _ rfl HO0'.out ⟨bb, off, none⟩ xs.length cap ((xs.take xs.length).map strL) rfl (by simp only [List.length_map, List.length_take]; omega) (row_newsk (n := 0) (HCB.out _ HB0)) (strL_one _) (by unfold maxLen; omega) (by omega) (by simp) ?_)
    | go_in)
   intro v1 w1 hown1 hg1
   have B1 : Below wr.heap.size wr w1 := below_grown HB0 HO0'.out hg1 (by simp)
   have hown1' : w1.ownsRow wr.heap.size 9 1 v1 (xs.take xs.length).length ((xs.take xs.length).map strL) := by
    have e : (xs.take xs.length).length = 0 + xs.length := by simp only [List.length_take]; omega
    rw [e]
    simpa using hown1
   have HO1 : Hid ((w1.alloc (.cells #[.string s] 9)).drew.ownsRow wr.heap.size 9 1 v1 (xs.take xs.length).length ((xs.take xs.length).map strL)) := (hown1'.alloc _).drew
   have B1d : Below wr.heap.size wr (w1.alloc (.cells #[.string s] 9)).drew := (B1.alloc B1.size _).drew
   have htk : (xs.take xs.length).length = xs.length := by simp only [List.length_take]; omega
   clear hown1 hown1' hg1
   go_wp2_with fail
   go_region_held3 (fun _ => True)
    (trivial)
    (first
     | ((refine step_row (by rfl) _ _ (by rfl) v1 (xs.take xs.length) (by rfl) HO1.out B1d.size ⟨w1.heap.size, 0, none⟩ 1 1 [s.data.toList] (by rfl) (by rfl) (fun j u h => one_atb w1 s j u h) (by rw [htk]; omega) ?_; intro v2 w2 hown2 hg2; have B2 := below_grown B1d HO1.out hg2 B1d.size))
     | ((refine step_row (by rfl) _ _ (by rfl) v2 (xs.take xs.length ++ [s.data.toList]) (by rfl) hown2 B2.size a1 0 (cap - xs.length) (xs.drop xs.length) (by rfl) (by simp) (row_drop (HCB.out _ B2) hk h1 HA1.out) (by rw [List.length_append, htk]; simp; omega) ?_; intro v3 w3 hown3 hg3; have B3 := below_grown B2 hown2 hg3 B2.size)))
   go_wp2_with fail
   go_ret
   refine ⟨_, rfl, ?_, B3⟩
   rw [HY.out]
   exact StrR.own hown3 (by simp only [List.length_append, List.length_cons]; omega)
def asc (l : List (List UInt8)) : Prop := l.Pairwise (fun a b => a < b)
theorem bl (x y : List UInt8) : Op.bytesLess x y = true ↔ x < y := by rw [Go.Proofs.bytesLess_eq]; simp
theorem fadd_mem (s : List UInt8) : ∀ (l : List (List UInt8)) (x : List UInt8), x ∈ fadd l s ↔ x ∈ l ∨ x = s
 | [], x => by simp [fadd]
 | y :: r, x => by
  have ih := fadd_mem s r x
  unfold fadd
  split
  ·simp [ih, or_assoc]
  ·split
   ·next h =>
    subst h
    constructor
    ·exact fun h => .inl h
    ·rintro (h | rfl)
     ·exact h
     ·simp
   ·rw [List.mem_cons, Or.comm]
theorem fadd_asc (s : List UInt8) : ∀ (l : List (List UInt8)), asc l → asc (fadd l s)
 | [], _ => by simp [fadd, asc]
 | y :: r, h => by
  have h' := List.pairwise_cons.1 h
  unfold fadd
  split
  ·next hl =>
   refine List.pairwise_cons.2 ⟨fun x hx => ?_, fadd_asc s r h'.2⟩
   rcases (fadd_mem s r x).1 hx with hx | rfl
   ·exact h'.1 x hx
   ·exact (bl _ _).1 hl
  ·next hl =>
   split
   ·exact h
   ·next hne =>
    have hlt : s < y := by
     have h1 : ¬ y < s := fun hh => hl ((bl _ _).2 hh)
     rcases List.le_iff_lt_or_eq.1 (List.not_lt.1 h1) with h2 | h2
     ·exact h2
     ·exact absurd h2.symm hne
    refine List.pairwise_cons.2 ⟨fun x hx => ?_, h⟩
    rcases List.mem_cons.1 hx with rfl | hx
    ·exact hlt
    ·exact List.lt_trans hlt (h'.1 x hx)
theorem fold_mem : ∀ (l o : List (List UInt8)) (x : List UInt8), x ∈ l.foldl fadd o ↔ x ∈ o ∨ x ∈ l
 | [], o, x => by simp
 | y :: l, o, x => by
  have := fold_mem l (fadd o y) x
  rw [List.foldl_cons, this, fadd_mem]
  simp [or_assoc]
theorem fold_asc : ∀ (l o : List (List UInt8)), asc o → asc (l.foldl fadd o)
 | [], o, h => h
 | y :: l, o, h => fold_asc l _ (fadd_asc y o h)

theorem asc_ext : ∀ {a b : List (List UInt8)}, asc a → asc b → (∀ x, x ∈ a ↔ x ∈ b) → a = b
 | [], [], _, _, _ => rfl
 | [], y :: b, _, _, h => by have := (h y).2 (by simp); simp at this
 | x :: a, [], _, _, h => by have := (h x).1 (by simp); simp at this
 | x :: a, y :: b, ha, hb, h => by
  have ha' := List.pairwise_cons.1 ha
  have hb' := List.pairwise_cons.1 hb
  have e : x = y := by
   rcases List.mem_cons.1 ((h x).1 (by simp)) with h1 | h1
   ·exact h1
   ·rcases List.mem_cons.1 ((h y).2 (by simp)) with h2 | h2
    ·exact h2.symm
    ·exact absurd (List.lt_trans (hb'.1 x h1) (ha'.1 y h2)) (List.lt_irrefl _)
  subst e
  rw [asc_ext ha'.2 hb'.2 (fun z => by
   constructor
   ·intro hz
    rcases List.mem_cons.1 ((h z).1 (by simp [hz])) with h1 | h1
    ·subst h1; exact absurd (ha'.1 z hz) (List.lt_irrefl _)
    ·exact h1
   ·intro hz
    rcases List.mem_cons.1 ((h z).2 (by simp [hz])) with h1 | h1
    ·subst h1; exact absurd (hb'.1 z hz) (List.lt_irrefl _)
    ·exact h1)]
theorem at_toArray (l : List (List UInt8)) (j : Nat) (h : j < l.length) : l.toArray[j]! = l[j] := by
 rw [getElem!_pos _ j (by simpa using h)]; simp
theorem compact_mem (l : List (List UInt8)) (x : List UInt8) : x ∈ Lib.compact l ↔ x ∈ l := by
 unfold Lib.compact Lib.compactUpTo
 simp only [List.mem_map, List.mem_filter, List.mem_range]
 constructor
 ·rintro ⟨j, ⟨hj, _⟩, rfl⟩
  rw [at_toArray l j hj]; exact List.getElem_mem hj
 ·intro hx
  obtain ⟨j, hj, rfl⟩ := List.getElem_of_mem hx
  induction j using Nat.strongRecOn with
  | ind j ih =>
   by_cases hk : Lib.keeps l.toArray j = true
   ·exact ⟨j, ⟨hj, hk⟩, at_toArray l j hj⟩
   ·have hk' : ¬ (j = 0) ∧ l[j] = l[j - 1]'(by omega) := by
     have hk2 : ¬ (j = 0 ∨ l.toArray[j]! ≠ l.toArray[j - 1]!) := by simpa [Lib.keeps] using hk
     have h0 : ¬ j = 0 := fun h => hk2 (.inl h)
     refine ⟨h0, ?_⟩
     have h1 : l.toArray[j]! = l.toArray[j - 1]! := Classical.byContradiction fun h => hk2 (.inr h)
     rwa [at_toArray l j hj, at_toArray l (j - 1) (by omega)] at h1
    have := ih (j - 1) (by omega) (by omega)
    rw [hk'.2]
    exact this (List.getElem_mem _)
theorem compact_asc {l : List (List UInt8)} (h : l.Pairwise (fun a b => a ≤ b)) : asc (Lib.compact l) := by
 unfold Lib.compact Lib.compactUpTo asc
 rw [List.pairwise_map]
 have hp : ((List.range l.length).filter (Lib.keeps l.toArray)).Pairwise (fun i j => i < j ∧ j < l.length ∧ Lib.keeps l.toArray j = true) := by
  rw [List.pairwise_iff_forall_sublist]
  intro i j hs
  have h1 : [i, j].Sublist (List.range l.length) := hs.trans List.filter_sublist
  have h2 := (List.pairwise_iff_forall_sublist.1 List.pairwise_lt_range) h1
  have h3 : j ∈ (List.range l.length).filter (Lib.keeps l.toArray) := hs.subset (by simp)
  rw [List.mem_filter, List.mem_range] at h3
  exact ⟨h2, h3.1, h3.2⟩
 refine hp.imp ?_
 rintro i j ⟨hij, hj, hk⟩
 rw [at_toArray l i (by omega), at_toArray l j hj]
 have hk2 : j = 0 ∨ l.toArray[j]! ≠ l.toArray[j - 1]! := by simpa [Lib.keeps] using hk
 have hne : l[j] ≠ l[j - 1]'(by omega) := by
  rcases hk2 with h | h
  ·omega
  ·rwa [at_toArray l j hj, at_toArray l (j - 1) (by omega)] at h
 have hs1 : l[j - 1]'(by omega) ≤ l[j] := (List.pairwise_iff_getElem.1 h) (j - 1) j (by omega) hj (by omega)
 have hs0 : l[i]'(by omega) ≤ l[j - 1]'(by omega) := by
  rcases Nat.lt_or_ge i (j - 1) with h' | h'
  ·exact (List.pairwise_iff_getElem.1 h) i (j - 1) (by omega) (by omega) h'
  ·have : i = j - 1 := by omega
   subst this; exact List.le_refl _
 have hlt : l[j - 1]'(by omega) < l[j] := by
  rcases Classical.em (l[j - 1]'(by omega) < l[j]) with h' | h'
  ·exact h'
  ·exact absurd (List.le_antisymm (List.not_lt.1 h') hs1) hne
 exact Classical.byContradiction fun hn => hne (List.le_antisymm (List.le_trans (List.not_lt.1 hn) hs0) hs1)
end Go.Proofs.YthbgpfjbfkiljaaGreatDoor.sr
