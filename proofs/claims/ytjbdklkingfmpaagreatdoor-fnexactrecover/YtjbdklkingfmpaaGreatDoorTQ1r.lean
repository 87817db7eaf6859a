import Derived.Test.YtjbdklkingfmpaaGreatDoorLqr
import Derived.Test.YtjbdklkingfmpaaGreatDoorTPr
import Derived.Test.YtjbdklkingfmpaaGreatDoorTT1r
set_option linter.unusedVariables false
set_option linter.unusedSimpArgs false
set_option maxRecDepth 100000
set_option maxHeartbeats 16000000
namespace Go.Proofs.YtjbdklkingfmpaaGreatDoor.tt
open Go.ChangeShapes Go.WideShapes Go.ChangeAt Go.RowKit Go.Deep
theorem less_any (p d p' d' : ByteArray) (k k' : Int) (x x' : Bool) (w : World) :
  Calls Tryz.prog 195 #[.agg #[.string p, .int .i64 k, .string d, .bool x], .agg #[.string p', .int .i64 k', .string d', .bool x']] w fun e w' => e = .returned (.bool (Op.bytesLess p.toList p'.toList)) ∧ Below w.heap.size w w' := by
 obtain ⟨r, hr⟩ : ∃ r, Op.bytesLess p.toList p'.toList = r := ⟨_, rfl⟩
 go_enter Tryz.func195, Tryz.ntmps195
 go_wp2
 go_ret
 exact ⟨by first | rfl | simp [hr], ((Below.refl _ _).alloc (Nat.le_refl _) _).alloc (by simp) _⟩
def Adj (E : Nat → En) (n : Nat) : Prop := ∀ i, i + 1 < n → pth E i < pth E (i + 1)
noncomputable def adjB (E : Nat → En) (n : Nat) : Bool := @decide (Adj E n) (Classical.propDecidable _)
theorem adjB_yes {E : Nat → En} {n : Nat} (h : Adj E n) : adjB E n = true := by unfold adjB; exact @decide_eq_true _ (Classical.propDecidable _) h
theorem adjB_no {E : Nat → En} {n : Nat} (h : ¬ Adj E n) : adjB E n = false := by unfold adjB; exact @decide_eq_false _ (Classical.propDecidable _) h
theorem adjB_iff {E : Nat → En} {n : Nat} : adjB E n = true ↔ Adj E n := by unfold adjB; exact @decide_eq_true_iff _ (Classical.propDecidable _)
theorem asc_any (E : Nat → En) (b o n cap : Nat) (w : World) (hR : EnR w b o n E) (hn : n ≤ 1048576) :
  Calls Tryz.prog 194 #[.slice (some ⟨b, o, none⟩) n cap, .func (.func 195) #[] #[]] w fun e w' => e = .returned (.bool (adjB E n)) ∧ Below w.heap.size w w' := by
 have HER : Hid (EnR w b o n E) := hR
 clear hR
 go_enter Tryz.func194, Tryz.ntmps194
 go_wp2
 go_loopw [5, 8] (fun _ x wr => ∃ i : Nat, i ≤ n ∧ x = .int .i64 (i : Int) ∧ Adj E i ∧ Below w.heap.size w wr) (fun _ x _ => n - (intOf x).toNat)
 case atStart => exact ⟨0, Nat.zero_le _, rfl, fun i h => by omega, Below.refl _ _⟩
 case round =>
  obtain ⟨i, hi, rfl, hadj, hbel⟩ := hrel
  have HAD : Hid (Adj E i) := hadj
  have HBE : Hid (Below w.heap.size w wr) := hbel
  clear hadj
  by_cases hil : i < n
  ·have hil' : (i : Int) < (n : Int) := by omega
   have hi0 : (0 : Int) ≤ (i : Int) := by omega
   by_cases hi1 : 0 < i
   ·have hi1' : (0 : Int) < (i : Int) := by omega
    obtain ⟨K, hKk⟩ : ∃ K, i = K + 1 := ⟨i - 1, by omega⟩
    have HKk : Hid (i = K + 1) := hKk
    have hK1 : (i : Int) - 1 = (K : Int) := by omega
    have hK2 : (K : Int) < (n : Int) := by omega
    have hK0 : (0 : Int) ≤ (K : Int) := by omega
    have hK3 : IntKind.i64.wrap ((i : Int) - 1) = (K : Int) := by rw [IntKind.wrap_i64]; omega
    have hK4 : IntKind.i64.wrap (K : Int) = (K : Int) := by rw [IntKind.wrap_i64]; omega
    obtain ⟨P, hP⟩ : ∃ P, (E i).path = P := ⟨_, rfl⟩
    obtain ⟨kP, hkP⟩ : ∃ k, (E i).kind = k := ⟨_, rfl⟩
    obtain ⟨dP, hdP⟩ : ∃ d, (E i).data = d := ⟨_, rfl⟩
    obtain ⟨xP, hxP⟩ : ∃ x, (E i).exec = x := ⟨_, rfl⟩
    obtain ⟨M, hM⟩ : ∃ P, (E K).path = P := ⟨_, rfl⟩
    obtain ⟨kM, hkM⟩ : ∃ k, (E K).kind = k := ⟨_, rfl⟩
    obtain ⟨dM, hdM⟩ : ∃ d, (E K).data = d := ⟨_, rfl⟩
    obtain ⟨xM, hxM⟩ : ∃ x, (E K).exec = x := ⟨_, rfl⟩
    have HCC : Hid (∀ w' : World, Below w.heap.size w w' → (w'.cell? ⟨b, o + K * 4, none⟩ = some (.string M) ∧ w'.cell? ⟨b, o + K * 4 + 1, none⟩ = some (.int .i64 kM) ∧ w'.cell? ⟨b, o + K * 4 + 2, none⟩ = some (.string dM) ∧ w'.cell? ⟨b, o + K * 4 + 3, none⟩ = some (.bool xM)) ∧ w'.cell? ⟨b, o + i * 4, none⟩ = some (.string P) ∧ w'.cell? ⟨b, o + i * 4 + 1, none⟩ = some (.int .i64 kP) ∧ w'.cell? ⟨b, o + i * 4 + 2, none⟩ = some (.string dP) ∧ w'.cell? ⟨b, o + i * 4 + 3, none⟩ = some (.bool xP)) := fun w' hb => by
     have h1 := (HER.out K (by omega)).below hb
     have h2 := (HER.out i hil).below hb
     unfold N4 at h1 h2
     rw [hM, hkM, hdM, hxM] at h1
     rw [hP, hkP, hdP, hxP] at h2
     exact ⟨h1, h2⟩
    have HPI : Hid (pth E i = P.data.toList) := by show _ = _; unfold pth; rw [hP]
    have HPK : Hid (pth E K = M.data.toList) := by show _ = _; unfold pth; rw [hM]
    have HLE : Hid (∀ W, Calls Tryz.prog 195 #[.agg #[.string M, .int .i64 kM, .string dM, .bool xM], .agg #[.string P, .int .i64 kP, .string dP, .bool xP]] W fun e w' => e = .returned (.bool (Op.bytesLess M.toList P.toList)) ∧ Below W.heap.size W w') := fun W => less_any _ _ _ _ _ _ _ _ W
    clear hP hkP hdP hxP hM hkM hdM hxM hKk hbel
    cases hbl : Op.bytesLess M.toList P.toList with
    | true =>
     rw [hbl] at HLE
     have HN : Hid (Adj E (i + 1)) := fun j hj => by
      rcases Nat.lt_or_ge (j + 1) i with h | h
      ·exact HAD.out j h
      ·obtain rfl : j = K := by have := HKk.out; omega
       rw [show j + 1 = i from HKk.out.symm, HPI.out, HPK.out]
       have := bl M P
       rw [hbl] at this
       simpa using this.symm
     clear hbl
     go_wp2_with fail
     refine wq 16 (S := fun w' => (w'.cell? ⟨b, o + K * 4, none⟩ = some (.string M) ∧ w'.cell? ⟨b, o + K * 4 + 1, none⟩ = some (.int .i64 kM) ∧ w'.cell? ⟨b, o + K * 4 + 2, none⟩ = some (.string dM) ∧ w'.cell? ⟨b, o + K * 4 + 3, none⟩ = some (.bool xM)) ∧ w'.cell? ⟨b, o + i * 4, none⟩ = some (.string P) ∧ w'.cell? ⟨b, o + i * 4 + 1, none⟩ = some (.int .i64 kP) ∧ w'.cell? ⟨b, o + i * 4 + 2, none⟩ = some (.string dP) ∧ w'.cell? ⟨b, o + i * 4 + 3, none⟩ = some (.bool xP)) (by kernel_rfl) (HCC.out _ HBE.out.drew) fun hHeld => ?_
     iterate 13 (refine un 16 rfl ?_;try simp only [aP])
     refine rq 13 rfl fun K hK => ?_
     go_simp
     (go_at_call 195; refine (HLE.out _).mono ?_; rintro e w2 ⟨rfl, hl2⟩; have hb2 : Below w.heap.size w w2 := HBE.out.drew.trans (hl2.mono HBE.out.size))
     try go_wp2_with fail
     refine hK.out _ _ (HCC.out _ hb2) (fun hHeld => ?_)
     clear hK K
     try simp only [aP]
     iterate 2 (refine un 16 rfl ?_;try simp only [aP])
     refine dq ?_
     go_wp2_with fail
     go_roundw
     case rel => exact ⟨i + 1, by omega, by go_num, HN.out, hb2⟩
     case measure => simp [intOf] <;> omega
    | false =>
     rw [hbl] at HLE
     have HF : Hid (¬ Adj E n) := fun h => by
      have h2 := h K (by have := HKk.out; omega)
      rw [show K + 1 = i from HKk.out.symm, HPK.out, HPI.out] at h2
      have := bl M P
      rw [hbl] at this
      simp at this
      exact absurd h2 (List.not_lt.2 this)
     clear hbl
     go_wp2_with fail
     refine wq 16 (S := fun w' => (w'.cell? ⟨b, o + K * 4, none⟩ = some (.string M) ∧ w'.cell? ⟨b, o + K * 4 + 1, none⟩ = some (.int .i64 kM) ∧ w'.cell? ⟨b, o + K * 4 + 2, none⟩ = some (.string dM) ∧ w'.cell? ⟨b, o + K * 4 + 3, none⟩ = some (.bool xM)) ∧ w'.cell? ⟨b, o + i * 4, none⟩ = some (.string P) ∧ w'.cell? ⟨b, o + i * 4 + 1, none⟩ = some (.int .i64 kP) ∧ w'.cell? ⟨b, o + i * 4 + 2, none⟩ = some (.string dP) ∧ w'.cell? ⟨b, o + i * 4 + 3, none⟩ = some (.bool xP)) (by kernel_rfl) (HCC.out _ HBE.out.drew) fun hHeld => ?_
     iterate 13 (refine un 16 rfl ?_;try simp only [aP])
     refine rq 13 rfl fun K hK => ?_
     go_simp
     (go_at_call 195; refine (HLE.out _).mono ?_; rintro e w2 ⟨rfl, hl2⟩; have hb2 : Below w.heap.size w w2 := HBE.out.drew.trans (hl2.mono HBE.out.size))
     try go_wp2_with fail
     refine hK.out _ _ (HCC.out _ hb2) (fun hHeld => ?_)
     clear hK K
     try simp only [aP]
     iterate 2 (refine un 16 rfl ?_;try simp only [aP])
     refine dq ?_
     go_wp2_with fail
     go_ret
     exact ⟨by rw [adjB_no HF.out]; first | done | rfl, hb2⟩
   ·have hi1' : ¬ (0 : Int) < (i : Int) := by omega
    have HN : Hid (Adj E (i + 1)) := fun j hj => by omega
    clear hbel
    go_wp2_with fail
    refine wq 16 (S := fun _ => True) (by kernel_rfl) (trivial) fun hHeld => ?_
    iterate 16 ((first|refine sn 16 rfl ?_|refine un 16 rfl ?_);try simp only [aP])
    refine dq ?_
    go_wp2_with fail
    go_roundw
    case rel => exact ⟨i + 1, by omega, by go_num, HN.out, HBE.out.drew⟩
    case measure => simp [intOf] <;> omega
  ·have hil' : ¬ (i : Int) < (n : Int) := by omega
   obtain rfl : i = n := by omega
   clear hbel
   go_wp2
   go_ret
   exact ⟨by rw [adjB_yes HAD.out]; first | done | rfl, HBE.out⟩
open Go.Maps
def AtC (E : Nat → En) : Prop := ∀ (W : World) (k rb rm N : Nat) (B M : Nat → Nat), Br W E k rb rm N B M → Tr E k → ML W → ∀ U : ByteArray, U.size ≤ 1048576 → Calls Tryz.prog 204 #[.pointer (some ⟨rb, 0, none⟩), .string U] W fun e w' => e = .returned (ptr (chd E B k U.data.toList)) ∧ Below W.heap.size W w'
theorem lst_zero {s : ByteArray} (h : pOk s = true) : lst s.data.toList ≠ some 0 := fun e => by
 have h1 := (lst_some e).1
 unfold pOk at h
 cases hl : s.data.toList with
 | nil => rw [hl] at h1; simp at h1
 | cons b l =>
  rw [hl] at h1 h
  have hb : b = 47 := by simpa using h1
  rw [pk, if_pos hb, name_nil] at h
  simp at h
def Wants (E : Nat → En) (k : Nat) (p : List UInt8) : Prop := up p ≠ [] → Dir E k (up p)
def Put (w w' : World) (E : Nat → En) (k rm N : Nat) (B M : Nat → Nat) (p : List UInt8) (nb : Nat) : Prop := ∃ w1 mb pre name, Below w.heap.size w w1 ∧ w1.grownBy w' (some mb) ∧ p = pre ++ name ∧ lst name = none ∧ ((pre = [] ∧ mb = rm) ∨ ∃ j, j < k ∧ (E j).kind = 1 ∧ mb = M j ∧ pre = pth E j ++ [47]) ∧ PM w' mb (N + 1) (fun x => if x = name then nb + 1 else fM E B k pre x)
theorem cut_at {l : List UInt8} {i : Nat} (h : lst l = some i) : l = (l.take i ++ [47]) ++ l.drop (i + 1) ∧ lst (l.drop (i + 1)) = none := by
 obtain ⟨h1, h2⟩ := lst_some h
 obtain ⟨hlt, he⟩ := List.getElem?_eq_some_iff.1 h1
 constructor
 ·have := List.take_append_drop i l
  rw [List.drop_eq_getElem_cons hlt, he] at this
  rw [List.append_assoc]
  exact this.symm
 ·refine lst_no fun j e => ?_
  rw [List.getElem?_drop] at e
  exact h2 (i + 1 + j) (by omega) e
theorem up_some {l : List UInt8} {i : Nat} (h : lst l = some i) : up l = l.take i := by unfold up; rw [h]
theorem up_none {l : List UInt8} (h : lst l = none) : up l = [] := by unfold up; rw [h]
theorem take_ne {l : List UInt8} {i : Nat} (h : lst l = some i) (h0 : i ≠ 0) : l.take i ≠ [] := fun e => by
 have := congrArg List.length e
 have hlt := (List.getElem?_eq_some_iff.1 (lst_some h).1).1
 rw [List.length_take, List.length_nil] at this
 omega
theorem hold_yes {w : World} {E : Nat → En} {k rb rm N : Nat} {B M : Nat → Nat} (h : Br w E k rb rm N B M) (hT : Tr E k) (hm : ML w) (hC : AtC E) (P : ByteArray) (hP : P.size ≤ 1048576) (hpk : pOk P = true) (nb : Nat) (hN : N ≤ 100000) (hw : Wants E k P.data.toList) :
  Calls Tryz.prog 199 #[.pointer (some ⟨rb, 0, none⟩), .string P, .pointer (some ⟨nb, 0, none⟩)] w fun e w' => e = .returned (.bool true) ∧ Put w w' E k rm N B M P.data.toList nb := by
 cases hl : lst P.data.toList with
 | none =>
  refine (hold_root h P hP hl nb hN).mono ?_
  rintro e w' ⟨rfl, hg, hp⟩
  exact ⟨rfl, w, rm, [], P.data.toList, Below.refl _ _, hg, rfl, hl, .inl ⟨rfl, rfl⟩, hp⟩
 | some i =>
  have hi0 : i ≠ 0 := fun e => by subst e; exact lst_zero hpk hl
  have hz : P.data.toList.length = P.size := by simp
  have hi : i < P.size := by have := (List.getElem?_eq_some_iff.1 (lst_some hl).1).1; omega
  obtain ⟨j, hj, hpj, hk⟩ := hw (by rw [up_some hl]; exact take_ne hl hi0)
  rw [up_some hl] at hpj
  have hat : ∀ W, Below w.heap.size w W → Calls Tryz.prog 204 #[.pointer (some ⟨rb, 0, none⟩), .string (P.extract 0 i)] W fun e w' => e = .returned (.pointer (some ⟨B j, 0, none⟩)) ∧ Below W.heap.size W w' := fun W hb => by
   have := hC W k rb rm N B M (h.below hb) hT (hm.below hb) (P.extract 0 i) (by simp; omega)
   rw [ext_take (by omega), chd_yes hT.asc hj hpj] at this
   exact this
  refine (hold_dir h P hP i hl nb j hN hj hk hat).mono ?_
  rintro e w' ⟨rfl, w1, hb1, hg, hp⟩
  obtain ⟨c1, c2⟩ := cut_at hl
  exact ⟨rfl, w1, M j, pth E j ++ [47], P.data.toList.drop (i + 1), hb1, hg, by rw [hpj]; exact c1, c2, .inr ⟨j, hj, hk, rfl, rfl⟩, hp⟩
theorem hold_not {w : World} {E : Nat → En} {k rb rm N : Nat} {B M : Nat → Nat} (h : Br w E k rb rm N B M) (hT : Tr E k) (hm : ML w) (hC : AtC E) (P : ByteArray) (hP : P.size ≤ 1048576) (nb : Nat) (hw : ¬ Wants E k P.data.toList) :
  Calls Tryz.prog 199 #[.pointer (some ⟨rb, 0, none⟩), .string P, .pointer (some ⟨nb, 0, none⟩)] w fun e w' => e = .returned (.bool false) ∧ Below w.heap.size w w' := by
 have hne : up P.data.toList ≠ [] := fun e => hw (fun h => absurd e h)
 have hnd : ¬ Dir E k (up P.data.toList) := fun e => hw (fun _ => e)
 cases hl : lst P.data.toList with
 | none => exact absurd (up_none hl) hne
 | some i =>
  have hz : P.data.toList.length = P.size := by simp
  have hi : i < P.size := by have := (List.getElem?_eq_some_iff.1 (lst_some hl).1).1; omega
  rw [up_some hl] at hnd
  have hat : ∀ W, Below w.heap.size w W → Calls Tryz.prog 204 #[.pointer (some ⟨rb, 0, none⟩), .string (P.extract 0 i)] W fun e w' => e = .returned (ptr (chd E B k (P.data.toList.take i))) ∧ Below W.heap.size W w' := fun W hb => by
   have := hC W k rb rm N B M (h.below hb) hT (hm.below hb) (P.extract 0 i) (by simp; omega)
   rwa [ext_take (by omega)] at this
  rcases chd_cases E B k (P.data.toList.take i) with ⟨j, hj, hpj, e⟩ | ⟨_, e⟩
  ·rw [e] at hat
   exact hold_leaf h P hP i hl nb j hj (fun hk => hnd ⟨j, hj, hpj, hk⟩) hat
  ·rw [e] at hat
   exact hold_none P hP i hl nb hat
theorem new_any (num k : Int) (w : World) :
  Calls Tryz.prog 196 #[.int .i64 num, .int .i64 k] w fun e w' => e = .returned (.pointer (some ⟨w.heap.size, 0, none⟩)) ∧ w'.cell? ⟨w.heap.size, 0, none⟩ = some (.int .i64 num) ∧ (k = 1 → w'.cell? ⟨w.heap.size, 1, none⟩ = some (.map (some (w.heap.size + 1))) ∧ PM w' (w.heap.size + 1) 0 (fun _ => 0)) ∧ (¬ k = 1 → w'.cell? ⟨w.heap.size, 1, none⟩ = some (.map none)) ∧ Below w.heap.size w w' := by
 by_cases hk : k = 1
 ·subst hk
  refine (new_dir num w).mono ?_
  rintro e w' ⟨rfl, h1, h2, h3, _, h5⟩
  exact ⟨rfl, h1, fun _ => ⟨h2, h3⟩, fun h => absurd rfl h, h5⟩
 ·refine (new_leaf num k hk w).mono ?_
  rintro e w' ⟨rfl, h1, h2, _, h5⟩
  exact ⟨rfl, h1, fun h => absurd h hk, fun _ => h2, h5⟩
end Go.Proofs.YtjbdklkingfmpaaGreatDoor.tt
