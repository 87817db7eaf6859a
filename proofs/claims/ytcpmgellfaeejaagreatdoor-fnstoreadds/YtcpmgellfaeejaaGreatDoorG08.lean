import Derived.Test.YtcpmgellfaeejaaGreatDoorG01
import Derived.Test.YtcpmgellfaeejaaGreatDoorG06
import Derived.Test.YtcpmgellfaeejaaGreatDoorG07
import Derived.Maps.Own
import Derived.Maps.OwnOps
import Derived.Maps.OwnSet
import Derived.Handy
import Derived.RangeFuncCalls
import Derived.RangeFuncLeaves
import Derived.Shelf.Abstract
import Derived.Shelf.RegionOpen
import Derived.WalkKit
import Derived.OwnWalkIn
import Derived.TacticsInMore
import Derived.LoopNIn
import Derived.LoopIn
namespace Go.Proofs.YtcpmgellfaeejaaGreatDoor.tt
open Go.ChangeShapes Go.WideShapes Go.ChangeAt Go.RowKit Go.Deep
set_option linter.unusedVariables false
set_option linter.unusedSimpArgs false
set_option maxRecDepth 100000 in
theorem less_any (p d p' d' : ByteArray) (k k' : Int) (x x' : Bool) (w : World) :
  Calls Tryz.prog 98 #[.agg #[.string p, .int .i64 k, .string d, .bool x], .agg #[.string p', .int .i64 k', .string d', .bool x']] w fun e w' => e = .returned (.bool (Op.bytesLess p.toList p'.toList)) ∧ Below w.heap.size w w' := by
 obtain ⟨r, hr⟩ : ∃ r, Op.bytesLess p.toList p'.toList = r := ⟨_, rfl⟩
 go_enter Tryz.func98, Tryz.ntmps98
 go_wp2
 go_ret
 exact ⟨by first | rfl | simp [hr], ((Below.refl _ _).alloc (Nat.le_refl _) _).alloc (by simp) _⟩
def Adj (E : Nat → En) (n : Nat) : Prop := ∀ i, i + 1 < n → pth E i < pth E (i + 1)
noncomputable def adjB (E : Nat → En) (n : Nat) : Bool := @decide (Adj E n) (Classical.propDecidable _)
theorem adjB_yes {E : Nat → En} {n : Nat} (h : Adj E n) : adjB E n = true := by unfold adjB; exact @decide_eq_true _ (Classical.propDecidable _) h
theorem adjB_no {E : Nat → En} {n : Nat} (h : ¬ Adj E n) : adjB E n = false := by unfold adjB; exact @decide_eq_false _ (Classical.propDecidable _) h
theorem adjB_iff {E : Nat → En} {n : Nat} : adjB E n = true ↔ Adj E n := by unfold adjB; exact @decide_eq_true_iff _ (Classical.propDecidable _)
set_option maxHeartbeats 4000000 in
set_option maxRecDepth 100000 in
theorem asc_any (E : Nat → En) (b o n cap : Nat) (w : World) (hR : EnR w b o n E) (hn : n ≤ 1048576) :
  Calls Tryz.prog 97 #[.slice (some ⟨b, o, none⟩) n cap, .func (.func 98) #[] #[]] w fun e w' => e = .returned (.bool (adjB E n)) ∧ Below w.heap.size w w' := by
 have HER : Hid (EnR w b o n E) := hR
 clear hR
 go_enter Tryz.func97, Tryz.ntmps97
 go_wp2
 go_loopw [5, 8] (fun _ x wr => ∃ i : Nat, i ≤ n ∧ x = .int .i64 (i : Int) ∧ Adj E i ∧ Below w.heap.size w wr) (fun _ x _ => n - (intOf x).toNat)
 case atStart => exact ⟨0, Nat.zero_le _, rfl, fun i h => by omega, Below.refl _ _⟩
 case round =>
  obtain ⟨i, hi, rfl, hadj, hbel⟩ := hrel
  have HAD : Hid (Adj E i) := hadj
  have HBE : Hid (Below w.heap.size w wr) := hbel
  clear hadj
  by_cases hil : i < n
  ·have hil' : (i : Int) < (n : Int) := by omega
   have hi0 : (0 : Int) ≤ (i : Int) := by omega
   by_cases hi1 : 0 < i
   ·have hi1' : (0 : Int) < (i : Int) := by omega
    obtain ⟨K, hKk⟩ : ∃ K, i = K + 1 := ⟨i - 1, by omega⟩
    have HKk : Hid (i = K + 1) := hKk
    have hK1 : (i : Int) - 1 = (K : Int) := by omega
    have hK2 : (K : Int) < (n : Int) := by omega
    have hK0 : (0 : Int) ≤ (K : Int) := by omega
    have hK3 : IntKind.i64.wrap ((i : Int) - 1) = (K : Int) := by rw [IntKind.wrap_i64]; omega
    have hK4 : IntKind.i64.wrap (K : Int) = (K : Int) := by rw [IntKind.wrap_i64]; omega
    obtain ⟨P, hP⟩ : ∃ P, (E i).path = P := ⟨_, rfl⟩
    obtain ⟨kP, hkP⟩ : ∃ k, (E i).kind = k := ⟨_, rfl⟩
    obtain ⟨dP, hdP⟩ : ∃ d, (E i).data = d := ⟨_, rfl⟩
    obtain ⟨xP, hxP⟩ : ∃ x, (E i).exec = x := ⟨_, rfl⟩
    obtain ⟨M, hM⟩ : ∃ P, (E K).path = P := ⟨_, rfl⟩
    obtain ⟨kM, hkM⟩ : ∃ k, (E K).kind = k := ⟨_, rfl⟩
    obtain ⟨dM, hdM⟩ : ∃ d, (E K).data = d := ⟨_, rfl⟩
    obtain ⟨xM, hxM⟩ : ∃ x, (E K).exec = x := ⟨_, rfl⟩
    have HCC : Hid (∀ w' : World, Below w.heap.size w w' → (w'.cell? ⟨b, o + K * 4, none⟩ = some (.string M) ∧ w'.cell? ⟨b, o + K * 4 + 1, none⟩ = some (.int .i64 kM) ∧ w'.cell? ⟨b, o + K * 4 + 2, none⟩ = some (.string dM) ∧ w'.cell? ⟨b, o + K * 4 + 3, none⟩ = some (.bool xM)) ∧ w'.cell? ⟨b, o + i * 4, none⟩ = some (.string P) ∧ w'.cell? ⟨b, o + i * 4 + 1, none⟩ = some (.int .i64 kP) ∧ w'.cell? ⟨b, o + i * 4 + 2, none⟩ = some (.string dP) ∧ w'.cell? ⟨b, o + i * 4 + 3, none⟩ = some (.bool xP)) := fun w' hb => by
     have h1 := (HER.out K (by omega)).below hb
     have h2 := (HER.out i hil).below hb
     unfold N4 at h1 h2
     rw [hM, hkM, hdM, hxM] at h1
     rw [hP, hkP, hdP, hxP] at h2
     exact ⟨h1, h2⟩
    have HPI : Hid (pth E i = P.data.toList) := by show _ = _; unfold pth; rw [hP]
    have HPK : Hid (pth E K = M.data.toList) := by show _ = _; unfold pth; rw [hM]
    have HLE : Hid (∀ W, Calls Tryz.prog 98 #[.agg #[.string M, .int .i64 kM, .string dM, .bool xM], .agg #[.string P, .int .i64 kP, .string dP, .bool xP]] W fun e w' => e = .returned (.bool (Op.bytesLess M.toList P.toList)) ∧ Below W.heap.size W w') := fun W => less_any _ _ _ _ _ _ _ _ W
    clear hP hkP hdP hxP hM hkM hdM hxM hKk hbel
    cases hbl : Op.bytesLess M.toList P.toList with
    | true =>
     rw [hbl] at HLE
     have HN : Hid (Adj E (i + 1)) := fun j hj => by
      rcases Nat.lt_or_ge (j + 1) i with h | h
      ·exact HAD.out j h
      ·obtain rfl : j = K := by have := HKk.out; omega
       rw [show j + 1 = i from HKk.out.symm, HPI.out, HPK.out]
       have := bl M P
       rw [hbl] at this
       simpa using this.symm
     clear hbl
     go_wp2_with fail
     refine wp_region_held_drew (S := fun w' => (w'.cell? ⟨b, o + K * 4, none⟩ = some (.string M) ∧ w'.cell? ⟨b, o + K * 4 + 1, none⟩ = some (.int .i64 kM) ∧ w'.cell? ⟨b, o + K * 4 + 2, none⟩ = some (.string dM) ∧ w'.cell? ⟨b, o + K * 4 + 3, none⟩ = some (.bool xM)) ∧ w'.cell? ⟨b, o + i * 4, none⟩ = some (.string P) ∧ w'.cell? ⟨b, o + i * 4 + 1, none⟩ = some (.int .i64 kP) ∧ w'.cell? ⟨b, o + i * 4 + 2, none⟩ = some (.string dP) ∧ w'.cell? ⟨b, o + i * 4 + 3, none⟩ = some (.bool xP)) (by kernel_rfl) (HCC.out _ HBE.out.drew) (fun hHeld => ?_)
     refine tq (i := 0) rfl (v := ?v1) ?hy1 ?r1
     case hy1 => (intro w hSw; (try dsimp only at hSw); go_simp; try with_reducible rfl)
     try simp only [aP]
     refine tq (i := 1) rfl (v := ?v2) ?hy2 ?r2
     case hy2 => (intro w hSw; (try dsimp only at hSw); go_simp; try with_reducible rfl)
     try simp only [aP]
     refine tq (i := 2) rfl (v := ?v3) ?hy3 ?r3
     case hy3 => (intro w hSw; (try dsimp only at hSw); go_simp; try with_reducible rfl)
     try simp only [aP]
     refine tq (i := 3) rfl (v := ?v4) ?hy4 ?r4
     case hy4 => (intro w hSw; (try dsimp only at hSw); go_simp; try with_reducible rfl)
     try simp only [aP]
     refine tq (i := 4) rfl (v := ?v5) ?hy5 ?r5
     case hy5 => (intro w hSw; (try dsimp only at hSw); go_simp; try with_reducible rfl)
     try simp only [aP]
     refine tq (i := 5) rfl (v := ?v6) ?hy6 ?r6
     case hy6 => (intro w hSw; (try dsimp only at hSw); go_simp; try with_reducible rfl)
     try simp only [aP]
     refine tq (i := 6) rfl (v := ?v7) ?hy7 ?r7
     case hy7 => (intro w hSw; (try dsimp only at hSw); go_simp; try with_reducible rfl)
     try simp only [aP]
     refine tq (i := 7) rfl (v := ?v8) ?hy8 ?r8
     case hy8 => (intro w hSw; (try dsimp only at hSw); go_simp; try with_reducible rfl)
     try simp only [aP]
     refine tq (i := 8) rfl (v := ?v9) ?hy9 ?r9
     case hy9 => (intro w hSw; (try dsimp only at hSw); go_simp; try with_reducible rfl)
     try simp only [aP]
     refine tq (i := 9) rfl (v := ?v10) ?hy10 ?r10
     case hy10 => (intro w hSw; (try dsimp only at hSw); go_simp; try with_reducible rfl)
     try simp only [aP]
     refine tq (i := 10) rfl (v := ?v11) ?hy11 ?r11
     case hy11 => (intro w hSw; (try dsimp only at hSw); go_simp; try with_reducible rfl)
     try simp only [aP]
     refine tq (i := 11) rfl (v := ?v12) ?hy12 ?r12
     case hy12 => (intro w hSw; (try dsimp only at hSw); go_simp; try with_reducible rfl)
     try simp only [aP]
     refine tq (i := 12) rfl (v := ?v13) ?hy13 ?r13
     case hy13 => (intro w hSw; (try dsimp only at hSw); go_simp; try with_reducible rfl)
     try simp only [aP]
     refine wpAnyH_ready (rs := [13]) (by kernel_rfl) (by simp) ?_
     refine cq rfl (fun K hK => ?_) AllReadyH.nil
     go_simp
     (go_at_call 98; refine (HLE.out _).mono ?_; rintro e w2 ⟨rfl, hl2⟩; have hb2 : Below w.heap.size w w2 := HBE.out.drew.trans (hl2.mono HBE.out.size))
     try go_wp2_with fail
     refine hK.out _ _ (HCC.out _ hb2) (fun hHeld => ?_)
     clear hK K
     try simp only [aP]
     refine tq (i := 14) rfl (v := ?v14) ?hy14 ?r14
     case hy14 => (intro w hSw; (try dsimp only at hSw); go_simp; try with_reducible rfl)
     try simp only [aP]
     refine tq (i := 15) rfl (v := ?v15) ?hy15 ?r15
     case hy15 => (intro w hSw; (try dsimp only at hSw); go_simp; try with_reducible rfl)
     try simp only [aP]
     refine wpAnyH_done (by kernel_rfl) ?_ _
     go_wp2_with fail
     go_roundw
     case rel => exact ⟨i + 1, by omega, by go_num, HN.out, hb2⟩
     case measure => simp [intOf] <;> omega
    | false =>
     rw [hbl] at HLE
     have HF : Hid (¬ Adj E n) := fun h => by
      have h2 := h K (by have := HKk.out; omega)
      rw [show K + 1 = i from HKk.out.symm, HPK.out, HPI.out] at h2
      have := bl M P
      rw [hbl] at this
      simp at this
      exact absurd h2 (List.not_lt.2 this)
     clear hbl
     go_wp2_with fail
     refine wp_region_held_drew (S := fun w' => (w'.cell? ⟨b, o + K * 4, none⟩ = some (.string M) ∧ w'.cell? ⟨b, o + K * 4 + 1, none⟩ = some (.int .i64 kM) ∧ w'.cell? ⟨b, o + K * 4 + 2, none⟩ = some (.string dM) ∧ w'.cell? ⟨b, o + K * 4 + 3, none⟩ = some (.bool xM)) ∧ w'.cell? ⟨b, o + i * 4, none⟩ = some (.string P) ∧ w'.cell? ⟨b, o + i * 4 + 1, none⟩ = some (.int .i64 kP) ∧ w'.cell? ⟨b, o + i * 4 + 2, none⟩ = some (.string dP) ∧ w'.cell? ⟨b, o + i * 4 + 3, none⟩ = some (.bool xP)) (by kernel_rfl) (HCC.out _ HBE.out.drew) (fun hHeld => ?_)
     refine tq (i := 0) rfl (v := ?v16) ?hy16 ?r16
     case hy16 => (intro w hSw; (try dsimp only at hSw); go_simp; try with_reducible rfl)
     try simp only [aP]
     refine tq (i := 1) rfl (v := ?v17) ?hy17 ?r17
     case hy17 => (intro w hSw; (try dsimp only at hSw); go_simp; try with_reducible rfl)
     try simp only [aP]
     refine tq (i := 2) rfl (v := ?v18) ?hy18 ?r18
     case hy18 => (intro w hSw; (try dsimp only at hSw); go_simp; try with_reducible rfl)
     try simp only [aP]
     refine tq (i := 3) rfl (v := ?v19) ?hy19 ?r19
     case hy19 => (intro w hSw; (try dsimp only at hSw); go_simp; try with_reducible rfl)
     try simp only [aP]
     refine tq (i := 4) rfl (v := ?v20) ?hy20 ?r20
     case hy20 => (intro w hSw; (try dsimp only at hSw); go_simp; try with_reducible rfl)
     try simp only [aP]
     refine tq (i := 5) rfl (v := ?v21) ?hy21 ?r21
     case hy21 => (intro w hSw; (try dsimp only at hSw); go_simp; try with_reducible rfl)
     try simp only [aP]
     refine tq (i := 6) rfl (v := ?v22) ?hy22 ?r22
     case hy22 => (intro w hSw; (try dsimp only at hSw); go_simp; try with_reducible rfl)
     try simp only [aP]
     refine tq (i := 7) rfl (v := ?v23) ?hy23 ?r23
     case hy23 => (intro w hSw; (try dsimp only at hSw); go_simp; try with_reducible rfl)
     try simp only [aP]
     refine tq (i := 8) rfl (v := ?v24) ?hy24 ?r24
     case hy24 => (intro w hSw; (try dsimp only at hSw); go_simp; try with_reducible rfl)
     try simp only [aP]
     refine tq (i := 9) rfl (v := ?v25) ?hy25 ?r25
     case hy25 => (intro w hSw; (try dsimp only at hSw); go_simp; try with_reducible rfl)
     try simp only [aP]
     refine tq (i := 10) rfl (v := ?v26) ?hy26 ?r26
     case hy26 => (intro w hSw; (try dsimp only at hSw); go_simp; try with_reducible rfl)
     try simp only [aP]
     refine tq (i := 11) rfl (v := ?v27) ?hy27 ?r27
     case hy27 => (intro w hSw; (try dsimp only at hSw); go_simp; try with_reducible rfl)
     try simp only [aP]
     refine tq (i := 12) rfl (v := ?v28) ?hy28 ?r28
     case hy28 => (intro w hSw; (try dsimp only at hSw); go_simp; try with_reducible rfl)
     try simp only [aP]
     refine wpAnyH_ready (rs := [13]) (by kernel_rfl) (by simp) ?_
     refine cq rfl (fun K hK => ?_) AllReadyH.nil
     go_simp
     (go_at_call 98; refine (HLE.out _).mono ?_; rintro e w2 ⟨rfl, hl2⟩; have hb2 : Below w.heap.size w w2 := HBE.out.drew.trans (hl2.mono HBE.out.size))
     try go_wp2_with fail
     refine hK.out _ _ (HCC.out _ hb2) (fun hHeld => ?_)
     clear hK K
     try simp only [aP]
     refine tq (i := 14) rfl (v := ?v29) ?hy29 ?r29
     case hy29 => (intro w hSw; (try dsimp only at hSw); go_simp; try with_reducible rfl)
     try simp only [aP]
     refine tq (i := 15) rfl (v := ?v30) ?hy30 ?r30
     case hy30 => (intro w hSw; (try dsimp only at hSw); go_simp; try with_reducible rfl)
     try simp only [aP]
     refine wpAnyH_done (by kernel_rfl) ?_ _
     go_wp2_with fail
     go_ret
     exact ⟨by rw [adjB_no HF.out]; first | done | rfl, hb2⟩
   ·have hi1' : ¬ (0 : Int) < (i : Int) := by omega
    have HN : Hid (Adj E (i + 1)) := fun j hj => by omega
    clear hbel
    go_wp2_with fail
    refine wp_region_held_drew (S := fun _ => True) (by kernel_rfl) (trivial) (fun hHeld => ?_)
    refine tq (i := 0) rfl (v := ?v31) ?hy31 ?r31
    case hy31 => (intro w hSw; (try dsimp only at hSw); go_simp; try with_reducible rfl)
    try simp only [aP]
    refine tq (i := 1) rfl (v := ?v32) ?hy32 ?r32
    case hy32 => (intro w hSw; (try dsimp only at hSw); go_simp; try with_reducible rfl)
    try simp only [aP]
    refine tq (i := 2) rfl (v := ?v33) ?hy33 ?r33
    case hy33 => (intro w hSw; (try dsimp only at hSw); go_simp; try with_reducible rfl)
    try simp only [aP]
    refine sq (i := 3) rfl ?_
    try simp only [aP]
    refine sq (i := 4) rfl ?_
    try simp only [aP]
    refine sq (i := 5) rfl ?_
    try simp only [aP]
    refine sq (i := 6) rfl ?_
    try simp only [aP]
    refine sq (i := 7) rfl ?_
    try simp only [aP]
    refine sq (i := 8) rfl ?_
    try simp only [aP]
    refine sq (i := 9) rfl ?_
    try simp only [aP]
    refine sq (i := 10) rfl ?_
    try simp only [aP]
    refine sq (i := 11) rfl ?_
    try simp only [aP]
    refine sq (i := 12) rfl ?_
    try simp only [aP]
    refine sq (i := 13) rfl ?_
    try simp only [aP]
    refine sq (i := 14) rfl ?_
    try simp only [aP]
    refine tq (i := 15) rfl (v := ?v34) ?hy34 ?r34
    case hy34 => (intro w hSw; (try dsimp only at hSw); go_simp; try with_reducible rfl)
    try simp only [aP]
    refine wpAnyH_done (by kernel_rfl) ?_ _
    go_wp2_with fail
    go_roundw
    case rel => exact ⟨i + 1, by omega, by go_num, HN.out, HBE.out.drew⟩
    case measure => simp [intOf] <;> omega
  ·have hil' : ¬ (i : Int) < (n : Int) := by omega
   obtain rfl : i = n := by omega
   clear hbel
   go_wp2
   go_ret
   exact ⟨by rw [adjB_yes HAD.out]; first | done | rfl, HBE.out⟩
end Go.Proofs.YtcpmgellfaeejaaGreatDoor.tt

namespace Go.Proofs.YtcpmgellfaeejaaGreatDoor.tt
open Go.ChangeShapes Go.WideShapes Go.ChangeAt Go.RowKit Go.Deep Go.Maps
set_option linter.unusedVariables false
set_option linter.unusedSimpArgs false
def AtC (E : Nat → En) : Prop := ∀ (W : World) (k rb rm N : Nat) (B M : Nat → Nat), Br W E k rb rm N B M → Tr E k → ML W → ∀ U : ByteArray, U.size ≤ 1048576 → Calls Tryz.prog 135 #[.pointer (some ⟨rb, 0, none⟩), .string U] W fun e w' => e = .returned (ptr (chd E B k U.data.toList)) ∧ Below W.heap.size W w'
theorem lst_zero {s : ByteArray} (h : pOk s = true) : lst s.data.toList ≠ some 0 := fun e => by
 have h1 := (lst_some e).1
 unfold pOk at h
 cases hl : s.data.toList with
 | nil => rw [hl] at h1; simp at h1
 | cons b l =>
  rw [hl] at h1 h
  have hb : b = 47 := by simpa using h1
  rw [pk, if_pos hb, name_nil] at h
  simp at h
def Wants (E : Nat → En) (k : Nat) (p : List UInt8) : Prop := up p ≠ [] → Dir E k (up p)
def Put (w w' : World) (E : Nat → En) (k rm N : Nat) (B M : Nat → Nat) (p : List UInt8) (nb : Nat) : Prop := ∃ w1 mb pre name, Below w.heap.size w w1 ∧ w1.grownBy w' (some mb) ∧ p = pre ++ name ∧ lst name = none ∧ ((pre = [] ∧ mb = rm) ∨ ∃ j, j < k ∧ (E j).kind = 1 ∧ mb = M j ∧ pre = pth E j ++ [47]) ∧ PM w' mb (N + 1) (fun x => if x = name then nb + 1 else fM E B k pre x)
theorem cut_at {l : List UInt8} {i : Nat} (h : lst l = some i) : l = (l.take i ++ [47]) ++ l.drop (i + 1) ∧ lst (l.drop (i + 1)) = none := by
 obtain ⟨h1, h2⟩ := lst_some h
 obtain ⟨hlt, he⟩ := List.getElem?_eq_some_iff.1 h1
 constructor
 ·have := List.take_append_drop i l
  rw [List.drop_eq_getElem_cons hlt, he] at this
  rw [List.append_assoc]
  exact this.symm
 ·refine lst_no fun j e => ?_
  rw [List.getElem?_drop] at e
  exact h2 (i + 1 + j) (by omega) e
theorem up_some {l : List UInt8} {i : Nat} (h : lst l = some i) : up l = l.take i := by unfold up; rw [h]
theorem up_none {l : List UInt8} (h : lst l = none) : up l = [] := by unfold up; rw [h]
theorem take_ne {l : List UInt8} {i : Nat} (h : lst l = some i) (h0 : i ≠ 0) : l.take i ≠ [] := fun e => by
 have := congrArg List.length e
 have hlt := (List.getElem?_eq_some_iff.1 (lst_some h).1).1
 rw [List.length_take, List.length_nil] at this
 omega
theorem hold_yes {w : World} {E : Nat → En} {k rb rm N : Nat} {B M : Nat → Nat} (h : Br w E k rb rm N B M) (hT : Tr E k) (hm : ML w) (hC : AtC E) (P : ByteArray) (hP : P.size ≤ 1048576) (hpk : pOk P = true) (nb : Nat) (hN : N ≤ 100000) (hw : Wants E k P.data.toList) :
  Calls Tryz.prog 102 #[.pointer (some ⟨rb, 0, none⟩), .string P, .pointer (some ⟨nb, 0, none⟩)] w fun e w' => e = .returned (.bool true) ∧ Put w w' E k rm N B M P.data.toList nb := by
 cases hl : lst P.data.toList with
 | none =>
  refine (hold_root h P hP hl nb hN).mono ?_
  rintro e w' ⟨rfl, hg, hp⟩
  exact ⟨rfl, w, rm, [], P.data.toList, Below.refl _ _, hg, rfl, hl, .inl ⟨rfl, rfl⟩, hp⟩
 | some i =>
  have hi0 : i ≠ 0 := fun e => by subst e; exact lst_zero hpk hl
  have hz : P.data.toList.length = P.size := by simp
  have hi : i < P.size := by have := (List.getElem?_eq_some_iff.1 (lst_some hl).1).1; omega
  obtain ⟨j, hj, hpj, hk⟩ := hw (by rw [up_some hl]; exact take_ne hl hi0)
  rw [up_some hl] at hpj
  have hat : ∀ W, Below w.heap.size w W → Calls Tryz.prog 135 #[.pointer (some ⟨rb, 0, none⟩), .string (P.extract 0 i)] W fun e w' => e = .returned (.pointer (some ⟨B j, 0, none⟩)) ∧ Below W.heap.size W w' := fun W hb => by
   have := hC W k rb rm N B M (h.below hb) hT (hm.below hb) (P.extract 0 i) (by simp; omega)
   rw [ext_take (by omega), chd_yes hT.asc hj hpj] at this
   exact this
  refine (hold_dir h P hP i hl nb j hN hj hk hat).mono ?_
  rintro e w' ⟨rfl, w1, hb1, hg, hp⟩
  obtain ⟨c1, c2⟩ := cut_at hl
  exact ⟨rfl, w1, M j, pth E j ++ [47], P.data.toList.drop (i + 1), hb1, hg, by rw [hpj]; exact c1, c2, .inr ⟨j, hj, hk, rfl, rfl⟩, hp⟩
theorem hold_not {w : World} {E : Nat → En} {k rb rm N : Nat} {B M : Nat → Nat} (h : Br w E k rb rm N B M) (hT : Tr E k) (hm : ML w) (hC : AtC E) (P : ByteArray) (hP : P.size ≤ 1048576) (nb : Nat) (hw : ¬ Wants E k P.data.toList) :
  Calls Tryz.prog 102 #[.pointer (some ⟨rb, 0, none⟩), .string P, .pointer (some ⟨nb, 0, none⟩)] w fun e w' => e = .returned (.bool false) ∧ Below w.heap.size w w' := by
 have hne : up P.data.toList ≠ [] := fun e => hw (fun h => absurd e h)
 have hnd : ¬ Dir E k (up P.data.toList) := fun e => hw (fun _ => e)
 cases hl : lst P.data.toList with
 | none => exact absurd (up_none hl) hne
 | some i =>
  have hz : P.data.toList.length = P.size := by simp
  have hi : i < P.size := by have := (List.getElem?_eq_some_iff.1 (lst_some hl).1).1; omega
  rw [up_some hl] at hnd
  have hat : ∀ W, Below w.heap.size w W → Calls Tryz.prog 135 #[.pointer (some ⟨rb, 0, none⟩), .string (P.extract 0 i)] W fun e w' => e = .returned (ptr (chd E B k (P.data.toList.take i))) ∧ Below W.heap.size W w' := fun W hb => by
   have := hC W k rb rm N B M (h.below hb) hT (hm.below hb) (P.extract 0 i) (by simp; omega)
   rwa [ext_take (by omega)] at this
  rcases chd_cases E B k (P.data.toList.take i) with ⟨j, hj, hpj, e⟩ | ⟨_, e⟩
  ·rw [e] at hat
   exact hold_leaf h P hP i hl nb j hj (fun hk => hnd ⟨j, hj, hpj, hk⟩) hat
  ·rw [e] at hat
   exact hold_none P hP i hl nb hat
theorem new_any (num k : Int) (w : World) :
  Calls Tryz.prog 99 #[.int .i64 num, .int .i64 k] w fun e w' => e = .returned (.pointer (some ⟨w.heap.size, 0, none⟩)) ∧ w'.cell? ⟨w.heap.size, 0, none⟩ = some (.int .i64 num) ∧ (k = 1 → w'.cell? ⟨w.heap.size, 1, none⟩ = some (.map (some (w.heap.size + 1))) ∧ PM w' (w.heap.size + 1) 0 (fun _ => 0)) ∧ (¬ k = 1 → w'.cell? ⟨w.heap.size, 1, none⟩ = some (.map none)) ∧ Below w.heap.size w w' := by
 by_cases hk : k = 1
 ·subst hk
  refine (new_dir num w).mono ?_
  rintro e w' ⟨rfl, h1, h2, h3, _, h5⟩
  exact ⟨rfl, h1, fun _ => ⟨h2, h3⟩, fun h => absurd rfl h, h5⟩
 ·refine (new_leaf num k hk w).mono ?_
  rintro e w' ⟨rfl, h1, h2, _, h5⟩
  exact ⟨rfl, h1, fun h => absurd h hk, fun _ => h2, h5⟩
end Go.Proofs.YtcpmgellfaeejaaGreatDoor.tt

namespace Go.Proofs.YtcpmgellfaeejaaGreatDoor.tt
open Go.ChangeShapes Go.WideShapes Go.ChangeAt Go.RowKit Go.Deep Go.Maps Go.Shelf Go.Proofs.YtcpmgellfaeejaaGreatDoor.rt
attribute [local go_sem] Oper.semAt_some
set_option linter.unusedVariables false
set_option linter.unusedSimpArgs false
def jo : List (List UInt8) → List UInt8
 | [] => []
 | [x] => x
 | x :: y :: r => x ++ 47 :: jo (y :: r)
theorem jo_snoc : ∀ (pre : List (List UInt8)) (x : List UInt8), pre ≠ [] → jo (pre ++ [x]) = jo pre ++ 47 :: x
 | [], _, h => absurd rfl h
 | [a], x, _ => by simp [jo]
 | a :: b :: r, x, _ => by
  have := jo_snoc (b :: r) x (by simp)
  simp only [List.cons_append] at this ⊢
  rw [jo, this, jo]
  simp
theorem spl_ne (cur l : List UInt8) : spl cur l ≠ [] := fun e => by
 have := spl_len l cur
 rw [e] at this
 simp at this
theorem jo_cons (x : List UInt8) (r : List (List UInt8)) (h : r ≠ []) : jo (x :: r) = x ++ 47 :: jo r := by
 cases r with
 | nil => exact absurd rfl h
 | cons y r => rfl
theorem jo_spl : ∀ (l cur : List UInt8), jo (spl cur l) = cur ++ l
 | [], cur => by simp [spl, jo]
 | b :: l, cur => by
  rw [spl]
  by_cases hb : b = 47
  ·rw [if_pos hb, jo_cons _ _ (spl_ne _ _), jo_spl l [], hb]; simp
  ·rw [if_neg hb, jo_spl l (cur ++ [b])]; simp
theorem spl_plain : ∀ (l cur : List UInt8), (∀ i : Nat, cur[i]? ≠ some 47) → ∀ x ∈ spl cur l, lst x = none
 | [], cur, h, x, hx => by
  simp [spl] at hx
  subst hx
  exact lst_no h
 | b :: l, cur, h, x, hx => by
  rw [spl] at hx
  by_cases hb : b = 47
  ·rw [if_pos hb] at hx
   rcases List.mem_cons.1 hx with rfl | hx
   ·exact lst_no h
   ·exact spl_plain l [] (by simp) x hx
  ·rw [if_neg hb] at hx
   refine spl_plain l (cur ++ [b]) (fun i e => ?_) x hx
   rcases Nat.lt_or_ge i cur.length with hi | hi
   ·rw [List.getElem?_append_left hi] at e; exact h i e
   ·rw [List.getElem?_append_right hi] at e
    cases hd : i - cur.length with
    | zero => rw [hd] at e; simp at e; exact hb e
    | succ m => rw [hd] at e; simp at e
theorem jo_app : ∀ (a b : List (List UInt8)), a ≠ [] → b ≠ [] → jo (a ++ b) = jo a ++ 47 :: jo b
 | [], _, h, _ => absurd rfl h
 | [x], b, _, hb => by rw [List.singleton_append, jo_cons _ _ hb]; rfl
 | x :: y :: r, b, _, hb => by
  have := jo_app (y :: r) b (by simp) hb
  simp only [List.cons_append] at this ⊢
  rw [jo, this, jo]
  simp
def nd (E : Nat → En) (B : Nat → Nat) (k rb : Nat) (pre : List ByteArray) : Nat := if pre = [] then rb + 1 else chd E B k (jo (pre.map (·.data.toList)))
theorem nd_all (E : Nat → En) (B : Nat → Nat) (k rb : Nat) (U : ByteArray) : nd E B k rb (PL U) = chd E B k U.data.toList := by
 have h : (PL U).map (·.data.toList) = spl [] U.data.toList := by unfold PL; rw [List.map_map]; exact (List.map_congr_left (fun x _ => by simp)).trans (List.map_id _)
 unfold nd
 rw [h, jo_spl, if_neg]
 ·rfl
 ·intro e
  rw [e] at h
  exact spl_ne [] U.data.toList h.symm
theorem nd_dead {E : Nat → En} {B : Nat → Nat} {k rb : Nat} (hT : Tr E k) {U : ByteArray} {pre : List ByteArray} (hp : pre <+: PL U) (h : nd E B k rb pre = 0) : chd E B k U.data.toList = 0 := by
 rw [← nd_all E B k rb U]
 obtain ⟨r, hr⟩ := hp
 unfold nd at h ⊢
 by_cases hn : pre = []
 ·rw [if_pos hn] at h; cases h
 ·rw [if_neg hn] at h
  rw [← hr, if_neg (by simp [hn])]
  by_cases hr0 : r = []
  ·rw [hr0, List.append_nil]; exact h
  ·rw [List.map_append, jo_app _ _ (by simpa using hn) (by simpa using hr0)]
   exact chd_dead hT _ _ _ (Nat.le_refl _) h
theorem PL_plain {U x : ByteArray} (h : x ∈ PL U) : lst x.data.toList = none ∧ x.size ≤ U.size := by
 unfold PL at h
 obtain ⟨l, hl, rfl⟩ := List.mem_map.1 h
 refine ⟨by simpa using spl_plain _ [] (by simp) l hl, ?_⟩
 have := spl_small _ _ l hl
 have e : (ByteArray.mk l.toArray).size = l.length := by simp [ByteArray.size]
 rw [e]
 simpa using this
end Go.Proofs.YtcpmgellfaeejaaGreatDoor.tt

namespace Go.Proofs.YtcpmgellfaeejaaGreatDoor.tt
open Go.ChangeShapes Go.WideShapes Go.ChangeAt Go.RowKit Go.Deep Go.Maps Go.Shelf Go.Proofs.YtcpmgellfaeejaaGreatDoor.rt
attribute [local go_sem] Oper.semAt_some
set_option linter.unusedVariables false
set_option linter.unusedSimpArgs false
theorem look_nil (x : ByteArray) (hx : x.size ≤ 1048576) (w : World) : (Instr.lookup 143 (.map none) (.string x) false).run Tryz.prog w = .ok (ptr 0) w := by
 have hK := string_keyed Tryz.underlying9
 rcases hK.find w (key9 x hx) [] (by simp) with ⟨f1, _⟩ | ⟨j, e0, _, f2, _⟩
 ·simp [Instr.lookup, run_underlying Tryz.underlying143, hK.check w _ (key9 x hx), f1, Tryz.zeroValue77 w, Result.andThen, ptr]
 ·simp at f2
theorem step {W : World} {E : Nat → En} {k rb rm N : Nat} {B M : Nat → Nat} (h : Br W E k rb rm N B M) (hT : Tr E k) {pre : List ByteArray} {b : Nat} (hb : nd E B k rb pre = b + 1) {x : ByteArray} (hx : lst x.data.toList = none) (hxs : x.size ≤ 1048576) :
  ∃ m, W.cell? ⟨b, 1, none⟩ = some (.map m) ∧ (Instr.lookup 143 (.map m) (.string x) false).run Tryz.prog W = .ok (ptr (nd E B k rb (pre ++ [x]))) W := by
 have hn2 : nd E B k rb (pre ++ [x]) = chd E B k (jo ((pre ++ [x]).map (·.data.toList))) := by unfold nd; rw [if_neg (by simp)]
 rw [hn2, List.map_append]
 by_cases hp : pre = []
 ·subst hp
  have : rb = b := by simpa [nd] using hb
  subst this
  refine ⟨some rm, h.root1, ?_⟩
  rw [h.rootM.look x hxs, fM, if_pos hx]
  rfl
 ·unfold nd at hb
  rw [if_neg hp] at hb
  rw [List.map_cons, List.map_nil, jo_snoc _ _ (by simpa using hp)]
  rcases chd_cases E B k (jo (pre.map (·.data.toList))) with ⟨j, hj, hpj, e⟩ | ⟨_, e⟩
  ·obtain rfl : B j = b := by omega
   rw [← hpj]
   by_cases hk : (E j).kind = 1
   ·obtain ⟨c, pm⟩ := h.dir j hj hk
    refine ⟨_, c, ?_⟩
    rw [pm.look x hxs, fM, if_pos hx]
    simp
   ·refine ⟨_, h.leaf j hj hk, ?_⟩
    rw [look_nil x hxs, chd_leaf hT hj hk hx]
  ·omega
end Go.Proofs.YtcpmgellfaeejaaGreatDoor.tt

namespace Go.Proofs.YtcpmgellfaeejaaGreatDoor.tt
open Go.ChangeShapes Go.WideShapes Go.ChangeAt Go.RowKit Go.Deep Go.Maps Go.Shelf Go.Proofs.YtcpmgellfaeejaaGreatDoor.rt
attribute [local go_sem] Oper.semAt_some
set_option linter.unusedVariables false
set_option linter.unusedSimpArgs false
structure AI (E : Nat → En) (B : Nat → Nat) (k rb : Nat) (w : World) (pre : List ByteArray) (W : World) : Prop where
 b : Boxed W w.heap.size 77 (ptr (nd E B k rb pre))
 n : nd E B k rb pre ≠ 0
 r : Boxed W (w.heap.size + 1) 77 (.pointer none)
 l : Below w.heap.size w W
structure AX (E : Nat → En) (B : Nat → Nat) (k rb : Nat) (w : World) (pre : List ByteArray) (W : World) : Prop where
 n : nd E B k rb pre = 0
 r : Boxed W (w.heap.size + 1) 77 (.pointer none)
 l : Below w.heap.size w W
theorem AI.grow {E : Nat → En} {B : Nat → Nat} {k rb : Nat} {w : World} {pre : List ByteArray} {W W' : World} {row : Option Nat} (h : AI E B k rb w pre W) (hg : W.grownBy W' row) (hr : ∀ j, row = some j → w.heap.size + 1 < j) : AI E B k rb w pre W' :=
 ⟨h.b.kept hg (fun e => by have := hr _ e.symm; omega), h.n, h.r.kept hg (fun e => by have := hr _ e.symm; omega), h.l.grown hg h.l.size (fun j e => by have := hr j e; omega)⟩
theorem AX.grow {E : Nat → En} {B : Nat → Nat} {k rb : Nat} {w : World} {pre : List ByteArray} {W W' : World} {row : Option Nat} (h : AX E B k rb w pre W) (hg : W.grownBy W' row) (hr : ∀ j, row = some j → w.heap.size + 1 < j) : AX E B k rb w pre W' :=
 ⟨h.n, h.r.kept hg (fun e => by have := hr _ e.symm; omega), h.l.grown hg h.l.size (fun j e => by have := hr j e; omega)⟩
theorem kb_set {W : World} {B b : Nat} (h : b < B) (v : Value) : Kb B W (W.setCell ⟨b, 0, none⟩ v) :=
 ⟨(KeepsWalks.setCell W _ v).size, Below.heap_setCell _ _ _ _ (by show _ ≠ b; omega), Below.heap_setCell _ _ _ _ (by show _ ≠ b; omega), Below.heap_setCell _ _ _ _ (by show _ ≠ b; omega)⟩
set_option maxHeartbeats 4000000 in
set_option maxRecDepth 100000 in
theorem at_any (E : Nat → En) : AtC E := by
 intro w k rb rm N B M hBr hT hm U hU
 have HBR : Hid (∀ W, Below w.heap.size w W → Br W E k rb rm N B M) := fun W hb => hBr.below hb
 have HT : Hid (Tr E k) := hT
 have hrb : rb < w.heap.size := World.block_lt_of_cell? _ _ hBr.root0
 clear hBr hT hm
 refine (callsIn_wide (n := 3)).1 ?_
 refine callsIn_of_wp_marks Tryz.func135 rfl trivial ?_ rfl
 simp only [Tryz.ntmps135, List.size_toArray, List.length_cons, List.length_nil, Nat.reduceAdd, Nat.reduceSub, Array.replicate_succ, Array.replicate_zero, List.push_toArray, List.append_toArray, List.nil_append, List.cons_append]
 gi_wp2_with (refine ⟨trivial, ?_⟩; gi_at_call 160; refine (callsIn_wide.2 (seq_any U _)).mono ?_; rintro e w' ⟨rfl, rfl⟩)
 have bB := ((((Boxed.new w 77 (.pointer (some ⟨rb, 0, none⟩))).alloc (.cells #[.pointer none] 77)).alloc (.cells #[.string U] 9)).alloc (.cells #[.string ⟨#[47]⟩] 9)).alloc (.cells #[.int .i64 0] 3)
 have bR := (((Boxed.new (w.alloc (.cells #[.pointer (some ⟨rb, 0, none⟩)] 77)) 77 (.pointer none)).alloc (.cells #[.string U] 9)).alloc (.cells #[.string ⟨#[47]⟩] 9)).alloc (.cells #[.int .i64 0] 3)
 have b2 := ((Boxed.new ((w.alloc (.cells #[.pointer (some ⟨rb, 0, none⟩)] 77)).alloc (.cells #[.pointer none] 77)) 9 (.string U)).alloc (.cells #[.string ⟨#[47]⟩] 9)).alloc (.cells #[.int .i64 0] 3)
 have b3 := (Boxed.new (((w.alloc (.cells #[.pointer (some ⟨rb, 0, none⟩)] 77)).alloc (.cells #[.pointer none] 77)).alloc (.cells #[.string U] 9)) 9 (.string ⟨#[47]⟩)).alloc (.cells #[.int .i64 0] 3)
 have b4 := Boxed.new ((((w.alloc (.cells #[.pointer (some ⟨rb, 0, none⟩)] 77)).alloc (.cells #[.pointer none] 77)).alloc (.cells #[.string U] 9)).alloc (.cells #[.string ⟨#[47]⟩] 9)) 3 (.int .i64 0)
 simp only [World.size_alloc] at bR b2 b3 b4
 have hB0 : Below w.heap.size w (((((w.alloc (.cells #[.pointer (some ⟨rb, 0, none⟩)] 77)).alloc (.cells #[.pointer none] 77)).alloc (.cells #[.string U] 9)).alloc (.cells #[.string ⟨#[47]⟩] 9)).alloc (.cells #[.int .i64 0] 3)) := (((((Below.refl _ w).alloc (Nat.le_refl _) _).alloc (by simp) _).alloc (by simp; omega) _).alloc (by simp; omega) _).alloc (by simp; omega) _
 have hsz : (((((w.alloc (.cells #[.pointer (some ⟨rb, 0, none⟩)] 77)).alloc (.cells #[.pointer none] 77)).alloc (.cells #[.string U] 9)).alloc (.cells #[.string ⟨#[47]⟩] 9)).alloc (.cells #[.int .i64 0] 3)).heap.size = w.heap.size + 5 := by simp
 obtain ⟨W0, hW0⟩ : ∃ W0, ((((w.alloc (.cells #[.pointer (some ⟨rb, 0, none⟩)] 77)).alloc (.cells #[.pointer none] 77)).alloc (.cells #[.string U] 9)).alloc (.cells #[.string ⟨#[47]⟩] 9)).alloc (.cells #[.int .i64 0] 3) = W0 := ⟨_, rfl⟩
 rw [hW0] at bB bR b2 b3 b4 hB0 hsz ⊢
 clear hW0
 refine range_t (by decide) (gf := 171) (lb := #[.pointer (some ⟨w.heap.size + 1 + 1 + 1, 0, none⟩), .pointer (some ⟨w.heap.size + 1 + 1, 0, none⟩), .pointer (some ⟨w.heap.size + 1 + 1 + 1 + 1, 0, none⟩)]) rfl (enters_of Tryz.func171 (by kernel_rfl) rfl)
  (split_hands 2 (w.heap.size + 1 + 1) U hU W0 (by decide) ⟨b2, b3, b4⟩) (fun r e => by rw [e]; omega)
  (fun A X C h1 h2 => ⟨Nat.le_trans h1.1 h2.1, h2.2.1.trans h1.2.1, h2.2.2.1.trans h1.2.2.1, h2.2.2.2.trans h1.2.2.2⟩)
  (fun W l o o' hl h1 h2 h3 => ⟨by simp, World.putObj_heap_other (by omega), World.putObj_heap_other (by omega), World.putObj_heap_other (by omega)⟩) rfl
  (AI E B k rb w) (AX E B k rb w)
  (fun s W W' row h hg hr => h.grow hg (fun j e => by have := (hr j e).1; omega)) (fun s W W' row h hg hr => h.grow hg (fun j e => by have := (hr j e).1; omega))
  (fun s W W' row h hg hr => h.grow hg (fun j e => by have := hr j e; omega)) (fun s W W' row h hg hr => h.grow hg (fun j e => by have := hr j e; omega))
  ⟨bB, by simp [nd], bR, hB0⟩
  (fun x => { tmps := #[.pointer (some ⟨rb, 0, none⟩), .string U, .pointer (some ⟨w.heap.size, 0, none⟩), undef, .pointer (some ⟨w.heap.size + 1, 0, none⟩), .string x, .string U, .func (.func 171) #[] #[.pointer (some ⟨w.heap.size + 1 + 1 + 1, 0, none⟩), .pointer (some ⟨w.heap.size + 1 + 1, 0, none⟩), .pointer (some ⟨w.heap.size + 1 + 1 + 1 + 1, 0, none⟩)], .string x, undef, undef, undef, undef, undef, undef, undef, undef, undef], defers := [] })
  ?assign ?body ?done ?stop
 case assign =>
  intro l x W K hK
  gi_wp2
  exact hK
 case body =>
  intro l pre x W hi hp
  obtain ⟨hx, hxs⟩ := PL_plain (hp.subset (by simp : x ∈ pre ++ [x]))
  obtain ⟨b, hb⟩ : ∃ b, nd E B k rb pre = b + 1 := ⟨nd E B k rb pre - 1, by have := hi.n; omega⟩
  have hc : W.cell? ⟨w.heap.size, 0, none⟩ = some (.pointer (some ⟨b, 0, none⟩)) := by have := hi.b.cell; rwa [hb] at this
  have hf := hi.b.frozen
  have hcr := hi.r.cell
  have hfr := hi.r.frozen
  obtain ⟨m, hcm, hlk⟩ := step (HBR.out W hi.l) HT.out hb hx (by omega)
  cases hnx : nd E B k rb (pre ++ [x]) with
  | zero =>
   rw [hnx] at hlk
   have hlk' : (Instr.lookup 143 (.map m) (.string x) false).run Tryz.prog W = .ok (.pointer none) W := hlk
   clear hlk
   gi_wp2
   exact ⟨((KeepsOthers.setCell _ _ _).trans (KeepsOthers.setCell _ _ _)).from _, ⟨hnx, (hi.r.other (by omega) _).set _, (hi.l.setCell (p := ⟨w.heap.size, 0, none⟩) (Nat.le_refl _) _).setCell (p := ⟨w.heap.size + 1, 0, none⟩) (by simp) _⟩⟩
  | succ c =>
   rw [hnx] at hlk
   have hlk' : (Instr.lookup 143 (.map m) (.string x) false).run Tryz.prog W = .ok (.pointer (some ⟨c, 0, none⟩)) W := hlk
   clear hlk
   gi_wp2
   refine ⟨(KeepsOthers.setCell _ _ _).from _, kb_set (by omega) _, ⟨?_, by omega, hi.r.other (by omega) _, hi.l.setCell (p := ⟨w.heap.size, 0, none⟩) (Nat.le_refl _) _⟩⟩
   rw [hnx]
   exact hi.b.set _
 case done =>
  intro D W hD hi hK
  obtain ⟨b, hb⟩ : ∃ b, nd E B k rb (PL U) = b + 1 := ⟨nd E B k rb (PL U) - 1, by have := hi.n; omega⟩
  have hc : W.cell? ⟨w.heap.size, 0, none⟩ = some (.pointer (some ⟨b, 0, none⟩)) := by have := hi.b.cell; rwa [hb] at this
  have hcr := hi.r.cell
  have hfr := hi.r.frozen
  gi_wp2
  have hK' := (KeepsOthers.setCell W ⟨w.heap.size + 1, 0, none⟩ (.pointer (some ⟨b, 0, none⟩))).same D _ hK rfl
  refine ⟨by simp, .inl ⟨_, _, rfl, run_takeDeferred hK', ?_⟩⟩
  have hc5 := cell_kept (hi.r.set (.pointer (some ⟨b, 0, none⟩))).cell (grownBy_putObj' _ D (.deferred none)) (fun r e => by cases e; exact ⟨_, hK', rfl⟩)
  refine ⟨.pointer (some ⟨b, 0, none⟩), ?_, ?_, (hi.l.setCell (p := ⟨w.heap.size + 1, 0, none⟩) (by simp) _).trans (belowK_b (w := w) (Nat.le_refl _) _ D _ _ (by omega) hK' rfl rfl)⟩
  ·simp [results, Tryz.f135, go_sem, hc5]
  ·rw [← nd_all E B k rb U, hb]; rfl
 case stop =>
  intro D pre W hD hp hx hK
  have hcr := hx.r.cell
  gi_wp2
  refine ⟨by simp, .inl ⟨_, _, rfl, run_takeDeferred hK, ?_⟩⟩
  have hc5 := cell_kept hcr (grownBy_putObj' _ D (.deferred none)) (fun r e => by cases e; exact ⟨_, hK, rfl⟩)
  refine ⟨.pointer none, ?_, ?_, hx.l.trans (belowK_b (w := w) (Nat.le_refl _) _ D _ _ (by omega) hK rfl rfl)⟩
  ·simp [results, Tryz.f135, go_sem, hc5]
  ·rw [nd_dead HT.out hp hx.n]; rfl
end Go.Proofs.YtcpmgellfaeejaaGreatDoor.tt

namespace Go.Proofs.YtcpmgellfaeejaaGreatDoor.rf
open Go.RowKit Go.Shelf Go.Proofs.YtcpmgellfaeejaaGreatDoor.rt Go.Maps
attribute [local go_sem] Oper.semAt_some
set_option linter.unusedVariables false
set_option linter.unusedSimpArgs false
def pcs (d : ByteArray) : List ByteArray := (List.range (d.size - 12)).map fun i => d.extract i (i + 13)
def PW (E : Nat → tt.En) : Nat → List ByteArray
 | 0 => []
 | k + 1 => PW E k ++ pcs (E k).data
theorem pcs_len (d : ByteArray) : (pcs d).length = d.size - 12 := by simp [pcs]
theorem pcs_take {d : ByteArray} {m : Nat} (h : m < d.size - 12) : (pcs d).take (m + 1) = (pcs d).take m ++ [d.extract m (m + 13)] := by
 unfold pcs
 rw [List.take_add_one]
 simp [h]
theorem PW_split {E : Nat → tt.En} {i : Nat} : ∀ {N : Nat}, i < N → ∃ R, PW E N = PW E i ++ (pcs (E i).data ++ R)
 | N + 1, h => by
  rcases Nat.lt_or_ge i N with h' | h'
  ·obtain ⟨R, hR⟩ := PW_split (E := E) h'
   exact ⟨R ++ pcs (E N).data, by rw [PW, hR]; simp⟩
  ·obtain rfl : i = N := by omega
   exact ⟨[], by simp [PW]⟩
theorem mem_pcs {d x : ByteArray} : x ∈ pcs d ↔ ∃ i, i + 13 ≤ d.size ∧ x = d.extract i (i + 13) := by
 unfold pcs
 simp only [List.mem_map, List.mem_range]
 constructor
 ·rintro ⟨i, hi, rfl⟩
  exact ⟨i, by omega, rfl⟩
 ·rintro ⟨i, hi, rfl⟩
  exact ⟨i, by omega, rfl⟩
theorem mem_PW {E : Nat → tt.En} {x : ByteArray} : ∀ {N : Nat}, x ∈ PW E N ↔ ∃ k, k < N ∧ x ∈ pcs (E k).data
 | 0 => by simp [PW]
 | N + 1 => by
  rw [PW, List.mem_append, mem_PW]
  constructor
  ·rintro (⟨k, hk, h⟩ | h)
   ·exact ⟨k, by omega, h⟩
   ·exact ⟨N, by omega, h⟩
  ·rintro ⟨k, hk, h⟩
   rcases Nat.lt_or_ge k N with h' | h'
   ·exact .inl ⟨k, h', h⟩
   ·obtain rfl : k = N := by omega
    exact .inr h
theorem inE_PW {E : Nat → tt.En} {N : Nat} {p : List UInt8} (hp : p.length = 13) : InE E N p ↔ ∃ x ∈ PW E N, x.data.toList = p := by
 constructor
 ·rintro ⟨k, hk, i, hi, e⟩
  rw [hp] at hi e
  refine ⟨(E k).data.extract i (i + 13), mem_PW.2 ⟨k, hk, mem_pcs.2 ⟨i, by simpa using hi, rfl⟩⟩, by rw [ext_at]; exact e⟩
 ·rintro ⟨x, hx, e⟩
  obtain ⟨k, hk, h⟩ := mem_PW.1 hx
  obtain ⟨i, hi, rfl⟩ := mem_pcs.1 h
  rw [ext_at] at e
  exact ⟨k, hk, i, by rw [hp]; simpa using hi, by rw [hp]; exact e⟩
def KC (W W' : World) : Prop := W.heap.size ≤ W'.heap.size ∧ ∀ (j : Nat) cs t f, W.heap[j]? = some (.cells cs t f) → W'.heap[j]? = some (.cells cs t f)
theorem KC.cell {W W' : World} {b o : Nat} {v : Value} (h : KC W W') (hc : W.cell? ⟨b, o, none⟩ = some v) : W'.cell? ⟨b, o, none⟩ = some v := by
 obtain ⟨cs, t, f, hb⟩ : ∃ cs t f, W.heap[b]? = some (.cells cs t f) := by
  unfold World.cell? at hc
  simp only at hc
  split at hc
  ·next cs t f e => exact ⟨_, _, _, e⟩
  all_goals simp at hc
 exact (World.cell?_of_block (a := ⟨b, o, none⟩) ((h.2 b cs t f hb).trans hb.symm)).trans hc
theorem KC.trans {A B C : World} (h : KC A B) (k : KC B C) : KC A C := ⟨Nat.le_trans h.1 k.1, fun j cs t f e => k.2 j cs t f (h.2 j cs t f e)⟩
theorem KC.en {W W' : World} {b o n : Nat} {E : Nat → tt.En} (h : KC W W') (hE : tt.EnR W b o n E) : tt.EnR W' b o n E := fun i hi => by
 obtain ⟨h0, h1, h2, h3⟩ := hE i hi
 exact ⟨h.cell h0, h.cell h1, h.cell h2, h.cell h3⟩
set_option maxRecDepth 100000 in
set_option maxHeartbeats 2000000 in
theorem words_hands (n tb : Nat) (E : Nat → tt.En) (b o N cap : Nat) (w : World) (hn : 1 ≤ n) (ht : w.cell? ⟨tb, 0, none⟩ = some (.slice (some ⟨b, o, none⟩) N cap)) (hE : tt.EnR w b o N E) (hS : tt.SmE N E) (hN : N ≤ 1048576) :
  Hands n Tryz.prog 147 #[.pointer (some ⟨tb, 0, none⟩)] KC (fun _ => False) (PW E N) w := by
 intro l J Jx W hW hJ hJx hY h0
 have hc0 : W.cell? ⟨tb, 0, none⟩ = some (.slice (some ⟨b, o, none⟩) N cap) := (hW.cell (p := ⟨tb, 0, none⟩) (World.block_lt_of_cell? _ _ ht)).trans ht
 have hE0 := hE.below hW
 have HS : Hid (tt.SmE N E) := hS
 clear hS
 refine callsIn_of_wp Tryz.func147 rfl trivial ?_ rfl
 simp only [Tryz.ntmps147, List.size_toArray, List.length_cons, List.length_nil, Nat.reduceAdd, Nat.reduceSub, Array.replicate_succ, Array.replicate_zero, List.push_toArray, List.append_toArray, List.nil_append, List.cons_append]
 gi_wp2
 gi_loopw [8] (fun y wr => ∃ i : Nat, i ≤ N ∧ y = .int .i64 (i : Int) ∧ tt.EnR wr b o N E ∧ J (PW E i) wr) (fun y _ => N - (intOf y).toNat)
 case atStart => exact ⟨0, Nat.zero_le _, rfl, hE0, h0⟩
 case round =>
  obtain ⟨i, hi, rfl, hEw, hJw⟩ := hrel
  have HEW : Hid (tt.EnR wr b o N E) := hEw
  have HJW : Hid (J (PW E i) wr) := hJw
  clear hJw
  by_cases hil : i < N
  ·have hil' : (i : Int) < (N : Int) := by omega
   have hi0 : (0 : Int) ≤ (i : Int) := by omega
   obtain ⟨e0, e1, e2, e3⟩ := hEw i hil
   have hds := (HS.out i hil).2
   obtain ⟨R, hR⟩ := PW_split (E := E) hil
   have HPW : Hid (PW E N = PW E i ++ (pcs (E i).data ++ R)) := hR
   have HPX : Hid (PW E (i + 1) = PW E i ++ pcs (E i).data) := rfl
   obtain ⟨d, hd⟩ : ∃ d, (E i).data = d := ⟨_, rfl⟩
   obtain ⟨d0, hd0⟩ : ∃ d, (E i).path = d := ⟨_, rfl⟩
   obtain ⟨d1, hd1⟩ : ∃ d, (E i).kind = d := ⟨_, rfl⟩
   obtain ⟨d3, hd3⟩ : ∃ d, (E i).exec = d := ⟨_, rfl⟩
   rw [hd] at e2 hds HPW HPX
   rw [hd0] at e0
   rw [hd1] at e1
   rw [hd3] at e3
   clear hR hd hd0 hd1 hd3 hEw
   obtain ⟨wo, rfl⟩ : ∃ wo, wo = wr := ⟨_, rfl⟩
   gi_wp2
   gi_loopw [5] (fun y wr => ∃ m : Nat, m ≤ d.size - 12 ∧ y = .int .i64 ((m + 13 : Nat) : Int) ∧ tt.EnR wr b o N E ∧ wr.cell? ⟨wo.heap.size, 2, none⟩ = some (.string d) ∧ J (PW E i ++ (pcs d).take m) wr) (fun y _ => d.size + 14 - (intOf y).toNat)
   case atStart =>
    refine ⟨0, Nat.zero_le _, rfl, HEW.out.below ((Below.refl _ _).alloc (Nat.le_refl _) _), by simp [go_sem], ?_⟩
    rw [List.take_zero, List.append_nil]
    exact hJ _ _ _ none HJW.out (World.grownBy_alloc _ _ _) (fun r e => by cases e)
   case round =>
    obtain ⟨m, hm, rfl, hEr, hbx, hJr⟩ := hrel
    have HER : Hid (tt.EnR wr b o N E) := hEr
    clear hEr
    by_cases hml : m < d.size - 12
    ·have hml' : (m : Int) + 13 ≤ (d.size : Int) := by omega
     have hm0 : (0 : Int) ≤ (m : Int) := by omega
     have hm1 : (m : Int) ≤ (m : Int) + 13 := by omega
     have hw1 : IntKind.i64.wrap (m : Int) = (m : Int) := by rw [IntKind.wrap_i64]; omega
     have HTK : Hid ((pcs d).take (m + 1) = (pcs d).take m ++ [d.extract m (m + 13)]) := pcs_take hml
     obtain ⟨fn, tmps, assign, body, hy, hR⟩ := hY (PW E i ++ (pcs d).take m) (d.extract m (m + 13)) wr hJr ⟨(pcs d).drop (m + 1) ++ R, by rw [HPW.out, List.append_assoc (PW E i), ← HTK.out, List.append_assoc, ← List.append_assoc ((pcs d).take (m + 1)), List.take_append_drop]⟩
     gi_wp2
     refine hR.mono ?_
     rintro e W3 (⟨rfl, hJ3, hk3⟩ | ⟨rfl, hJx3⟩)
     ·have hE3 := hk3.en HER.out
      have hb3 := hk3.cell hbx
      gi_wp2
      go_roundw
      case rel => exact ⟨m + 1, by omega, by go_num, hE3, hb3, by rw [HTK.out, ← List.append_assoc]; exact hJ3⟩
      case measure => simp [intOf]; omega
     ·gi_wp2
      refine bodyPost_ret (results_none rfl _ _ _) rfl ?_
      exact ⟨⟨_, rfl⟩, .inr ⟨_, ⟨(pcs d).drop (m + 1) ++ R, by rw [HPW.out, List.append_assoc (PW E i), ← HTK.out, List.append_assoc, ← List.append_assoc ((pcs d).take (m + 1)), List.take_append_drop]⟩, hJx3⟩⟩
    ·have hml' : ¬ (m : Int) + 13 ≤ (d.size : Int) := by omega
     have HJN : Hid (J (PW E (i + 1)) wr) := by
      have h := hJr
      rw [List.take_of_length_le (by rw [pcs_len]; omega), ← HPX.out] at h
      exact h
     clear hJr
     gi_wp2
     go_roundw
     case rel => exact ⟨i + 1, by omega, by go_num, HER.out, HJN.out⟩
     case measure => simp [intOf]; omega
  ·have hil' : ¬ (i : Int) < (N : Int) := by omega
   obtain rfl : i = N := by omega
   gi_wp2
   go_end0
   exact ⟨⟨_, rfl⟩, .inl HJW.out⟩
end Go.Proofs.YtcpmgellfaeejaaGreatDoor.rf
