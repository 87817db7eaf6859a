import Derived.Test.YtaoimkjcaienbaaGreatDoorG05
namespace Go.Proofs.YtaoimkjcaienbaaGreatDoor.tt
open Go.ChangeShapes Go.WideShapes Go.ChangeAt Go.RowKit Go.Deep Go.Maps
set_option linter.unusedVariables false
set_option linter.unusedSimpArgs false

/-! ### Trees of files: a branch is held -/

theorem PM.put {w' : World} {b N n : Nat} {f : List UInt8 → Nat} {D : DataW Unit} {t : List UInt8} (hm : IsMap D) (h : ∀ x, D.atKey (.string x) (.lit (.int .i64 0)) = .lit (.int .i64 (f x : Int))) (hz : ∀ x, Maps.has D (.string x) = true → f x ≠ 0) (hn : n ≠ 0) (h2 : w'.ownsMap Tryz.prog 9 rdP b (N + 1) (D.put (.string t) (.lit (.int .i64 (n : Int))))) : PM w' b (N + 1) (fun x => if x = t then n else f x) :=
  ⟨_, h2, put_at hm h t n, fun x hx => by
    by_cases e : x = t
    · show (if x = t then n else f x) ≠ 0; rw [if_pos e]; exact hn
    · show (if x = t then n else f x) ≠ 0; rw [if_neg e]
      rw [has_put_other (by simpa using e)] at hx
      exact hz x hx⟩

set_option maxHeartbeats 2000000 in
set_option maxRecDepth 100000 in
theorem hold_root {w : World} {E : Nat → En} {k rb rm N : Nat} {B M : Nat → Nat} (h : Br w E k rb rm N B M) (P : ByteArray) (hP : P.size ≤ 1048576) (hl : lst P.data.toList = none) (nb : Nat) (hN : N ≤ 100000) :
    Calls Tryz.prog 93 #[.pointer (some ⟨rb, 0, none⟩), .string P, .pointer (some ⟨nb, 0, none⟩)] w fun e w' => e = .returned (.bool true) ∧ w.grownBy w' (some rm) ∧ PM w' rm (N + 1) (fun x => if x = P.data.toList then nb + 1 else fM E B k [] x) := by
  have c0 := h.root0
  have c1 := h.root1
  obtain ⟨D, d1, d2⟩ := h.rootM
  have hm : IsMap D := d1.isMap
  have HD : Hid (w.ownsMap Tryz.prog 9 rdP rm N D) := d1
  have HD2 : Hid (∀ x, D.atKey (.string x) (.lit (.int .i64 0)) = .lit (.int .i64 (fM E B k [] x : Int))) := d2.1
  have HNZ : Hid (∀ x, Maps.has D (.string x) = true → fM E B k [] x ≠ 0) := d2.2
  have HM : Hid (IsMap D) := hm
  have HLI : Hid (∀ W, Calls Tryz.prog 110 #[.string P, .string ⟨#[47]⟩] W fun e w' => e = .returned (.int .i64 (-1)) ∧ w' = W) := fun W => by
    have := last_any P hP W
    unfold lstI at this
    rwa [hl] at this
  have HKEY : Hid (keyOf Tryz.prog 9 (.string P) = some (.string P.data.toList)) := key9 P hP
  have HVAL : Hid (rdP (.pointer (some ⟨nb, 0, none⟩)) = some (.lit (.int .i64 ((nb + 1 : Nat) : Int)), [])) := rdP_ptr (nb + 1)
  have hnm : ∀ W : World, (binOp .eql 80 (.map (some rm)) (.map none)).run Tryz.prog W = .ok (.bool false) W := fun _ => rfl
  clear h d1 d2 hm
  go_enter Tryz.func93, Tryz.ntmps93
  go_wp2_with (first
    | (go_at_call 110; refine (HLI.out _).mono ?_; rintro e w1 ⟨rfl, hw1⟩; obtain rfl := hw1.symm; clear hw1)
    | (at_mapUpdate; refine wpList_mapUpdate_own _ rfl _ _ _ 80 rfl 9 77 (string_keyed Tryz.underlying9) Tryz.underlying80 rdP rm N D rfl HD.out (by unfold maxLen; omega) _ _ (.string P.data.toList) rfl rfl HKEY.out _ [] HVAL.out ?_; intro w2 hown2 hg2)
    | go_in)
  go_ret
  exact ⟨rfl, hg2, PM.put HM.out HD2.out HNZ.out (by omega) hown2⟩

theorem ext_take {s : ByteArray} {i : Nat} (h : i ≤ s.size) : (s.extract 0 i).data.toList = s.data.toList.take i := by rw [bytes_ext]; simp
theorem ext_drop {s : ByteArray} {i : Nat} (h : i ≤ s.size) : (s.extract i s.size).data.toList = s.data.toList.drop i := by
  have hz : s.data.toList.length = s.size := by simp
  rw [bytes_ext, List.take_of_length_le (by rw [List.length_drop, hz]; omega)]

set_option maxHeartbeats 4000000 in
set_option maxRecDepth 100000 in
theorem hold_dir {w : World} {E : Nat → En} {k rb rm N : Nat} {B M : Nat → Nat} (h : Br w E k rb rm N B M) (P : ByteArray) (hP : P.size ≤ 1048576) (i : Nat) (hl : lst P.data.toList = some i) (nb j : Nat) (hN : N ≤ 100000) (hj : j < k) (hk : (E j).kind = 1)
    (hat : ∀ W, Below w.heap.size w W → Calls Tryz.prog 77 #[.pointer (some ⟨rb, 0, none⟩), .string (P.extract 0 i)] W fun e w' => e = .returned (.pointer (some ⟨B j, 0, none⟩)) ∧ Below W.heap.size W w') :
    Calls Tryz.prog 93 #[.pointer (some ⟨rb, 0, none⟩), .string P, .pointer (some ⟨nb, 0, none⟩)] w fun e w' => e = .returned (.bool true) ∧ ∃ w1, Below w.heap.size w w1 ∧ w1.grownBy w' (some (M j)) ∧ PM w' (M j) (N + 1) (fun x => if x = P.data.toList.drop (i + 1) then nb + 1 else fM E B k (pth E j ++ [47]) x) := by
  have hz : P.data.toList.length = P.size := by simp
  have hi : i < P.size := by have := (List.getElem?_eq_some_iff.1 (lst_some hl).1).1; omega
  have HBR : Hid (∀ W, Below w.heap.size w W → Br W E k rb rm N B M) := fun W hb => h.below hb
  have HAT : Hid (∀ W, Below w.heap.size w W → Calls Tryz.prog 77 #[.pointer (some ⟨rb, 0, none⟩), .string (P.extract 0 i)] W fun e w' => e = .returned (.pointer (some ⟨B j, 0, none⟩)) ∧ Below W.heap.size W w') := hat
  have HLI : Hid (∀ W, Calls Tryz.prog 110 #[.string P, .string ⟨#[47]⟩] W fun e w' => e = .returned (.int .i64 (i : Int)) ∧ w' = W) := fun W => by
    have := last_any P hP W
    unfold lstI at this
    rwa [hl] at this
  have hi0 : (0 : Int) ≤ (i : Int) := by omega
  have hi1 : (i : Int) ≤ (P.size : Int) := by omega
  obtain ⟨t, htt⟩ : ∃ t, t = i + 1 := ⟨_, rfl⟩
  have HTT : Hid (t = i + 1) := htt
  have ht1 : (i : Int) + 1 = (t : Int) := by omega
  have ht2 : IntKind.i64.wrap ((i : Int) + 1) = (t : Int) := by rw [IntKind.wrap_i64]; omega
  have ht3 : IntKind.i64.wrap (t : Int) = (t : Int) := by rw [IntKind.wrap_i64]; omega
  have ht4 : (t : Int) ≤ (P.size : Int) := by omega
  have ht5 : (0 : Int) ≤ (t : Int) := by omega
  have HKEY : Hid (keyOf Tryz.prog 9 (.string (P.extract t P.size)) = some (.string (P.data.toList.drop (i + 1)))) := by
    show _ = _
    rw [key9 _ (by simp; omega), ext_drop (by omega), htt]
  have HVAL : Hid (rdP (.pointer (some ⟨nb, 0, none⟩)) = some (.lit (.int .i64 ((nb + 1 : Nat) : Int)), [])) := rdP_ptr (nb + 1)
  have hnm : ∀ W : World, (binOp .eql 80 (.map (some (M j))) (.map none)).run Tryz.prog W = .ok (.bool false) W := fun _ => rfl
  clear h hat hl hz htt
  go_enter Tryz.func93, Tryz.ntmps93
  go_wp2_with (go_at_call 110; refine (HLI.out _).mono ?_; rintro e w1 ⟨rfl, hw1⟩; obtain rfl := hw1.symm; clear hw1)
  go_region_held3 (fun _ => True)
    (trivial)
    (((go_at_call 77; refine (HAT.out _ (Below.refl _ _).drew).mono ?_; rintro e w2 ⟨rfl, hl2⟩; have hb2 : Below w.heap.size w w2 := (Below.refl w.heap.size w).drew.trans (hl2.mono (Nat.le_refl _)))))
  have hBR := HBR.out w2 hb2
  have c1 := (hBR.dir j hj hk).1
  obtain ⟨D, d1, d2⟩ := (hBR.dir j hj hk).2
  have HD : Hid (w2.ownsMap Tryz.prog 9 rdP (M j) N D) := d1
  have HD2 : Hid (∀ x, D.atKey (.string x) (.lit (.int .i64 0)) = .lit (.int .i64 (fM E B k (pth E j ++ [47]) x : Int))) := d2.1
  have HNZ : Hid (∀ x, Maps.has D (.string x) = true → fM E B k (pth E j ++ [47]) x ≠ 0) := d2.2
  have HM : Hid (IsMap D) := d1.isMap
  clear d1 d2 hBR
  go_wp2_with (first
    | (at_mapUpdate; refine wpList_mapUpdate_own _ rfl _ _ _ 80 rfl 9 77 (string_keyed Tryz.underlying9) Tryz.underlying80 rdP (M j) N D rfl HD.out (by unfold maxLen; omega) _ _ (.string (P.data.toList.drop (i + 1))) rfl rfl HKEY.out _ [] HVAL.out ?_; intro w3 hown3 hg3)
    | go_in)
  go_ret
  exact ⟨rfl, w2, hb2, hg3, PM.put HM.out HD2.out HNZ.out (by omega) hown3⟩

set_option maxHeartbeats 4000000 in
set_option maxRecDepth 100000 in
theorem hold_leaf {w : World} {E : Nat → En} {k rb rm N : Nat} {B M : Nat → Nat} (h : Br w E k rb rm N B M) (P : ByteArray) (hP : P.size ≤ 1048576) (i : Nat) (hl : lst P.data.toList = some i) (nb j : Nat) (hj : j < k) (hk : ¬ (E j).kind = 1)
    (hat : ∀ W, Below w.heap.size w W → Calls Tryz.prog 77 #[.pointer (some ⟨rb, 0, none⟩), .string (P.extract 0 i)] W fun e w' => e = .returned (.pointer (some ⟨B j, 0, none⟩)) ∧ Below W.heap.size W w') :
    Calls Tryz.prog 93 #[.pointer (some ⟨rb, 0, none⟩), .string P, .pointer (some ⟨nb, 0, none⟩)] w fun e w' => e = .returned (.bool false) ∧ Below w.heap.size w w' := by
  have hz : P.data.toList.length = P.size := by simp
  have hi : i < P.size := by have := (List.getElem?_eq_some_iff.1 (lst_some hl).1).1; omega
  have HBR : Hid (∀ W, Below w.heap.size w W → Br W E k rb rm N B M) := fun W hb => h.below hb
  have HAT : Hid (∀ W, Below w.heap.size w W → Calls Tryz.prog 77 #[.pointer (some ⟨rb, 0, none⟩), .string (P.extract 0 i)] W fun e w' => e = .returned (.pointer (some ⟨B j, 0, none⟩)) ∧ Below W.heap.size W w') := hat
  have HLI : Hid (∀ W, Calls Tryz.prog 110 #[.string P, .string ⟨#[47]⟩] W fun e w' => e = .returned (.int .i64 (i : Int)) ∧ w' = W) := fun W => by
    have := last_any P hP W
    unfold lstI at this
    rwa [hl] at this
  have hi0 : (0 : Int) ≤ (i : Int) := by omega
  have hi1 : (i : Int) ≤ (P.size : Int) := by omega
  obtain ⟨t, htt⟩ : ∃ t, t = i + 1 := ⟨_, rfl⟩
  have HTT : Hid (t = i + 1) := htt
  have ht1 : (i : Int) + 1 = (t : Int) := by omega
  have ht2 : IntKind.i64.wrap ((i : Int) + 1) = (t : Int) := by rw [IntKind.wrap_i64]; omega
  have ht3 : IntKind.i64.wrap (t : Int) = (t : Int) := by rw [IntKind.wrap_i64]; omega
  have ht4 : (t : Int) ≤ (P.size : Int) := by omega
  have ht5 : (0 : Int) ≤ (t : Int) := by omega
  have hnm : ∀ W : World, (binOp .eql 80 (.map none) (.map none)).run Tryz.prog W = .ok (.bool true) W := fun _ => rfl
  clear h hat hl hz htt
  go_enter Tryz.func93, Tryz.ntmps93
  go_wp2_with (go_at_call 110; refine (HLI.out _).mono ?_; rintro e w1 ⟨rfl, hw1⟩; obtain rfl := hw1.symm; clear hw1)
  go_region_held3 (fun _ => True)
    (trivial)
    (((go_at_call 77; refine (HAT.out _ (Below.refl _ _).drew).mono ?_; rintro e w2 ⟨rfl, hl2⟩; have hb2 : Below w.heap.size w w2 := (Below.refl w.heap.size w).drew.trans (hl2.mono (Nat.le_refl _)))))
  have c1 := (HBR.out w2 hb2).leaf j hj hk
  go_wp2_with fail
  go_ret
  exact ⟨rfl, hb2⟩

set_option maxHeartbeats 4000000 in
set_option maxRecDepth 100000 in
theorem hold_none {w : World} {rb : Nat} (P : ByteArray) (hP : P.size ≤ 1048576) (i : Nat) (hl : lst P.data.toList = some i) (nb : Nat)
    (hat : ∀ W, Below w.heap.size w W → Calls Tryz.prog 77 #[.pointer (some ⟨rb, 0, none⟩), .string (P.extract 0 i)] W fun e w' => e = .returned (.pointer none) ∧ Below W.heap.size W w') :
    Calls Tryz.prog 93 #[.pointer (some ⟨rb, 0, none⟩), .string P, .pointer (some ⟨nb, 0, none⟩)] w fun e w' => e = .returned (.bool false) ∧ Below w.heap.size w w' := by
  have hz : P.data.toList.length = P.size := by simp
  have hi : i < P.size := by have := (List.getElem?_eq_some_iff.1 (lst_some hl).1).1; omega
  have HAT : Hid (∀ W, Below w.heap.size w W → Calls Tryz.prog 77 #[.pointer (some ⟨rb, 0, none⟩), .string (P.extract 0 i)] W fun e w' => e = .returned (.pointer none) ∧ Below W.heap.size W w') := hat
  have HLI : Hid (∀ W, Calls Tryz.prog 110 #[.string P, .string ⟨#[47]⟩] W fun e w' => e = .returned (.int .i64 (i : Int)) ∧ w' = W) := fun W => by
    have := last_any P hP W
    unfold lstI at this
    rwa [hl] at this
  have hi0 : (0 : Int) ≤ (i : Int) := by omega
  have hi1 : (i : Int) ≤ (P.size : Int) := by omega
  obtain ⟨t, htt⟩ : ∃ t, t = i + 1 := ⟨_, rfl⟩
  have HTT : Hid (t = i + 1) := htt
  have ht1 : (i : Int) + 1 = (t : Int) := by omega
  have ht2 : IntKind.i64.wrap ((i : Int) + 1) = (t : Int) := by rw [IntKind.wrap_i64]; omega
  have ht3 : IntKind.i64.wrap (t : Int) = (t : Int) := by rw [IntKind.wrap_i64]; omega
  have ht4 : (t : Int) ≤ (P.size : Int) := by omega
  have ht5 : (0 : Int) ≤ (t : Int) := by omega
  clear hat hl hz htt
  go_enter Tryz.func93, Tryz.ntmps93
  go_wp2_with (go_at_call 110; refine (HLI.out _).mono ?_; rintro e w1 ⟨rfl, hw1⟩; obtain rfl := hw1.symm; clear hw1)
  go_region_held3 (fun _ => True)
    (trivial)
    (((go_at_call 77; refine (HAT.out _ (Below.refl _ _).drew).mono ?_; rintro e w2 ⟨rfl, hl2⟩; have hb2 : Below w.heap.size w w2 := (Below.refl w.heap.size w).drew.trans (hl2.mono (Nat.le_refl _)))))
  go_wp2_with fail
  go_ret
  exact ⟨rfl, hb2⟩

end Go.Proofs.YtaoimkjcaienbaaGreatDoor.tt

namespace Go.Proofs.YtaoimkjcaienbaaGreatDoor.tt
open Go.ChangeShapes Go.WideShapes Go.ChangeAt Go.RowKit Go.Deep
set_option linter.unusedVariables false
set_option linter.unusedSimpArgs false

/-! ### Trees of files: the program, an ascending list -/

set_option maxRecDepth 100000 in
theorem less_any (p d p' d' : ByteArray) (k k' : Int) (x x' : Bool) (w : World) :
    Calls Tryz.prog 91 #[.agg #[.string p, .int .i64 k, .string d, .bool x], .agg #[.string p', .int .i64 k', .string d', .bool x']] w fun e w' => e = .returned (.bool (Op.bytesLess p.toList p'.toList)) ∧ Below w.heap.size w w' := by
  obtain ⟨r, hr⟩ : ∃ r, Op.bytesLess p.toList p'.toList = r := ⟨_, rfl⟩
  go_enter Tryz.func91, Tryz.ntmps91
  go_wp2
  go_ret
  exact ⟨by first | rfl | simp [hr], ((Below.refl _ _).alloc (Nat.le_refl _) _).alloc (by simp) _⟩

def Adj (E : Nat → En) (n : Nat) : Prop := ∀ i, i + 1 < n → pth E i < pth E (i + 1)
noncomputable def adjB (E : Nat → En) (n : Nat) : Bool := @decide (Adj E n) (Classical.propDecidable _)
theorem adjB_yes {E : Nat → En} {n : Nat} (h : Adj E n) : adjB E n = true := by unfold adjB; exact @decide_eq_true _ (Classical.propDecidable _) h
theorem adjB_no {E : Nat → En} {n : Nat} (h : ¬ Adj E n) : adjB E n = false := by unfold adjB; exact @decide_eq_false _ (Classical.propDecidable _) h
theorem adjB_iff {E : Nat → En} {n : Nat} : adjB E n = true ↔ Adj E n := by unfold adjB; exact @decide_eq_true_iff _ (Classical.propDecidable _)

set_option maxHeartbeats 4000000 in
set_option maxRecDepth 100000 in
theorem asc_any (E : Nat → En) (b o n cap : Nat) (w : World) (hR : EnR w b o n E) (hn : n ≤ 1048576) :
    Calls Tryz.prog 90 #[.slice (some ⟨b, o, none⟩) n cap, .func (.func 91) #[] #[]] w fun e w' => e = .returned (.bool (adjB E n)) ∧ Below w.heap.size w w' := by
  have HER : Hid (EnR w b o n E) := hR
  clear hR
  go_enter Tryz.func90, Tryz.ntmps90
  go_wp2
  go_loopw [5, 8] (fun _ x wr => ∃ i : Nat, i ≤ n ∧ x = .int .i64 (i : Int) ∧ Adj E i ∧ Below w.heap.size w wr) (fun _ x _ => n - (intOf x).toNat)
  case atStart => exact ⟨0, Nat.zero_le _, rfl, fun i h => by omega, Below.refl _ _⟩
  case round =>
    obtain ⟨i, hi, rfl, hadj, hbel⟩ := hrel
    have HAD : Hid (Adj E i) := hadj
    have HBE : Hid (Below w.heap.size w wr) := hbel
    clear hadj
    by_cases hil : i < n
    · have hil' : (i : Int) < (n : Int) := by omega
      have hi0 : (0 : Int) ≤ (i : Int) := by omega
      by_cases hi1 : 0 < i
      · have hi1' : (0 : Int) < (i : Int) := by omega
        obtain ⟨K, hKk⟩ : ∃ K, i = K + 1 := ⟨i - 1, by omega⟩
        have HKk : Hid (i = K + 1) := hKk
        have hK1 : (i : Int) - 1 = (K : Int) := by omega
        have hK2 : (K : Int) < (n : Int) := by omega
        have hK0 : (0 : Int) ≤ (K : Int) := by omega
        have hK3 : IntKind.i64.wrap ((i : Int) - 1) = (K : Int) := by rw [IntKind.wrap_i64]; omega
        have hK4 : IntKind.i64.wrap (K : Int) = (K : Int) := by rw [IntKind.wrap_i64]; omega
        obtain ⟨P, hP⟩ : ∃ P, (E i).path = P := ⟨_, rfl⟩
        obtain ⟨kP, hkP⟩ : ∃ k, (E i).kind = k := ⟨_, rfl⟩
        obtain ⟨dP, hdP⟩ : ∃ d, (E i).data = d := ⟨_, rfl⟩
        obtain ⟨xP, hxP⟩ : ∃ x, (E i).exec = x := ⟨_, rfl⟩
        obtain ⟨M, hM⟩ : ∃ P, (E K).path = P := ⟨_, rfl⟩
        obtain ⟨kM, hkM⟩ : ∃ k, (E K).kind = k := ⟨_, rfl⟩
        obtain ⟨dM, hdM⟩ : ∃ d, (E K).data = d := ⟨_, rfl⟩
        obtain ⟨xM, hxM⟩ : ∃ x, (E K).exec = x := ⟨_, rfl⟩
        have HCC : Hid (∀ w' : World, Below w.heap.size w w' → (w'.cell? ⟨b, o + K * 4, none⟩ = some (.string M) ∧ w'.cell? ⟨b, o + K * 4 + 1, none⟩ = some (.int .i64 kM) ∧ w'.cell? ⟨b, o + K * 4 + 2, none⟩ = some (.string dM) ∧ w'.cell? ⟨b, o + K * 4 + 3, none⟩ = some (.bool xM)) ∧ w'.cell? ⟨b, o + i * 4, none⟩ = some (.string P) ∧ w'.cell? ⟨b, o + i * 4 + 1, none⟩ = some (.int .i64 kP) ∧ w'.cell? ⟨b, o + i * 4 + 2, none⟩ = some (.string dP) ∧ w'.cell? ⟨b, o + i * 4 + 3, none⟩ = some (.bool xP)) := fun w' hb => by
          have h1 := (HER.out K (by omega)).below hb
          have h2 := (HER.out i hil).below hb
          unfold N4 at h1 h2
          rw [hM, hkM, hdM, hxM] at h1
          rw [hP, hkP, hdP, hxP] at h2
          exact ⟨h1, h2⟩
        have HPI : Hid (pth E i = P.data.toList) := by show _ = _; unfold pth; rw [hP]
        have HPK : Hid (pth E K = M.data.toList) := by show _ = _; unfold pth; rw [hM]
        have HLE : Hid (∀ W, Calls Tryz.prog 91 #[.agg #[.string M, .int .i64 kM, .string dM, .bool xM], .agg #[.string P, .int .i64 kP, .string dP, .bool xP]] W fun e w' => e = .returned (.bool (Op.bytesLess M.toList P.toList)) ∧ Below W.heap.size W w') := fun W => less_any _ _ _ _ _ _ _ _ W
        clear hP hkP hdP hxP hM hkM hdM hxM hKk hbel
        cases hbl : Op.bytesLess M.toList P.toList with
        | true =>
          rw [hbl] at HLE
          have HN : Hid (Adj E (i + 1)) := fun j hj => by
            rcases Nat.lt_or_ge (j + 1) i with h | h
            · exact HAD.out j h
            · obtain rfl : j = K := by have := HKk.out; omega
              rw [show j + 1 = i from HKk.out.symm, HPI.out, HPK.out]
              have := bl M P
              rw [hbl] at this
              simpa using this.symm
          clear hbl
          go_wp2_with fail
          refine wp_region_held_drew (S := fun w' => (w'.cell? ⟨b, o + K * 4, none⟩ = some (.string M) ∧ w'.cell? ⟨b, o + K * 4 + 1, none⟩ = some (.int .i64 kM) ∧ w'.cell? ⟨b, o + K * 4 + 2, none⟩ = some (.string dM) ∧ w'.cell? ⟨b, o + K * 4 + 3, none⟩ = some (.bool xM)) ∧ w'.cell? ⟨b, o + i * 4, none⟩ = some (.string P) ∧ w'.cell? ⟨b, o + i * 4 + 1, none⟩ = some (.int .i64 kP) ∧ w'.cell? ⟨b, o + i * 4 + 2, none⟩ = some (.string dP) ∧ w'.cell? ⟨b, o + i * 4 + 3, none⟩ = some (.bool xP)) (by kernel_rfl) (HCC.out _ HBE.out.drew) (fun hHeld => ?_)
          refine wpAnyH_take (i := 0) (oi := ⟨some 11, .move (.tmp 5), 3, "l05_drv.go:105", #[], none⟩) (v := ?v1) rfl (by kernel_rfl) (by kernel_rfl) (by kernel_rfl) (fun _ _ _ h => h) (Or.inl ⟨by rfl, ?hy1⟩) (by assumption) ?r1
          case hy1 => (intro w hSw; (try dsimp only at hSw); go_simp; try with_reducible rfl)
          try simp only [Act.put, List.setIfInBounds_toArray, List.set_cons_zero, List.set_cons_succ]
          refine wpAnyH_take (i := 1) (oi := ⟨some 12, .binOp .gtr 3 (.tmp 11) (.const (.int .i64 0)) 3, 4, "l05_drv.go:105", #[⟨0, .data⟩], none⟩) (v := ?v2) rfl (by kernel_rfl) (by kernel_rfl) (by kernel_rfl) (fun _ _ _ h => h) (Or.inl ⟨by rfl, ?hy2⟩) (by assumption) ?r2
          case hy2 => (intro w hSw; (try dsimp only at hSw); go_simp; try with_reducible rfl)
          try simp only [Act.put, List.setIfInBounds_toArray, List.set_cons_zero, List.set_cons_succ]
          refine wpAnyH_take (i := 2) (oi := ⟨some 13, .move (.tmp 12), 4, "l05_drv.go:105", #[⟨1, .data⟩], none⟩) (v := ?v3) rfl (by kernel_rfl) (by kernel_rfl) (by kernel_rfl) (fun _ _ _ h => h) (Or.inl ⟨by rfl, ?hy3⟩) (by assumption) ?r3
          case hy3 => (intro w hSw; (try dsimp only at hSw); go_simp; try with_reducible rfl)
          try simp only [Act.put, List.setIfInBounds_toArray, List.set_cons_zero, List.set_cons_succ]
          refine wpAnyH_take (i := 3) (oi := ⟨some 14, .move (.tmp 1), 121, "l05_drv.go:105", #[⟨2, .guard⟩], some (2, true)⟩) (v := ?v4) rfl (by kernel_rfl) (by kernel_rfl) (by kernel_rfl) (fun _ _ _ h => h) (Or.inl ⟨by rfl, ?hy4⟩) (by assumption) ?r4
          case hy4 => (intro w hSw; (try dsimp only at hSw); go_simp; try with_reducible rfl)
          try simp only [Act.put, List.setIfInBounds_toArray, List.set_cons_zero, List.set_cons_succ]
          refine wpAnyH_take (i := 4) (oi := ⟨some 15, .move (.tmp 0), 24, "l05_drv.go:105", #[⟨2, .guard⟩], some (2, true)⟩) (v := ?v5) rfl (by kernel_rfl) (by kernel_rfl) (by kernel_rfl) (fun _ _ _ h => h) (Or.inl ⟨by rfl, ?hy5⟩) (by assumption) ?r5
          case hy5 => (intro w hSw; (try dsimp only at hSw); go_simp; try with_reducible rfl)
          try simp only [Act.put, List.setIfInBounds_toArray, List.set_cons_zero, List.set_cons_succ]
          refine wpAnyH_take (i := 5) (oi := ⟨some 16, .move (.tmp 5), 3, "l05_drv.go:105", #[⟨2, .guard⟩], some (2, true)⟩) (v := ?v6) rfl (by kernel_rfl) (by kernel_rfl) (by kernel_rfl) (fun _ _ _ h => h) (Or.inl ⟨by rfl, ?hy6⟩) (by assumption) ?r6
          case hy6 => (intro w hSw; (try dsimp only at hSw); go_simp; try with_reducible rfl)
          try simp only [Act.put, List.setIfInBounds_toArray, List.set_cons_zero, List.set_cons_succ]
          refine wpAnyH_take (i := 6) (oi := ⟨some 17, .binOp .sub 3 (.tmp 16) (.const (.int .i64 1)) 3, 3, "l05_drv.go:105", #[⟨5, .data⟩, ⟨2, .guard⟩], some (2, true)⟩) (v := ?v7) rfl (by kernel_rfl) (by kernel_rfl) (by kernel_rfl) (fun _ _ _ h => h) (Or.inl ⟨by rfl, ?hy7⟩) (by assumption) ?r7
          case hy7 => (intro w hSw; (try dsimp only at hSw); go_simp; try with_reducible rfl)
          try simp only [Act.put, List.setIfInBounds_toArray, List.set_cons_zero, List.set_cons_succ]
          refine wpAnyH_take (i := 7) (oi := ⟨some 18, .indexAddr 24 (.tmp 15) (.tmp 17), 0, "l05_drv.go:105", #[⟨4, .data⟩, ⟨6, .data⟩, ⟨2, .guard⟩], some (2, true)⟩) (v := ?v8) rfl (by kernel_rfl) (by kernel_rfl) (by kernel_rfl) (fun _ _ _ h => h) (Or.inl ⟨by rfl, ?hy8⟩) (by assumption) ?r8
          case hy8 => (intro w hSw; (try dsimp only at hSw); go_simp; try with_reducible rfl)
          try simp only [Act.put, List.setIfInBounds_toArray, List.set_cons_zero, List.set_cons_succ]
          refine wpAnyH_take (i := 8) (oi := ⟨some 19, .load 29 (.tmp 18), 29, "l05_drv.go:105", #[⟨7, .data⟩, ⟨2, .guard⟩], some (2, true)⟩) (v := ?v9) rfl (by kernel_rfl) (by kernel_rfl) (by kernel_rfl) (fun _ _ _ h => h) (Or.inl ⟨by rfl, ?hy9⟩) (by assumption) ?r9
          case hy9 => (intro w hSw; (try dsimp only at hSw); go_simp; try with_reducible rfl)
          try simp only [Act.put, List.setIfInBounds_toArray, List.set_cons_zero, List.set_cons_succ]
          refine wpAnyH_take (i := 9) (oi := ⟨some 20, .move (.tmp 0), 24, "l05_drv.go:105", #[⟨2, .guard⟩], some (2, true)⟩) (v := ?v10) rfl (by kernel_rfl) (by kernel_rfl) (by kernel_rfl) (fun _ _ _ h => h) (Or.inl ⟨by rfl, ?hy10⟩) (by assumption) ?r10
          case hy10 => (intro w hSw; (try dsimp only at hSw); go_simp; try with_reducible rfl)
          try simp only [Act.put, List.setIfInBounds_toArray, List.set_cons_zero, List.set_cons_succ]
          refine wpAnyH_take (i := 10) (oi := ⟨some 21, .move (.tmp 5), 3, "l05_drv.go:105", #[⟨2, .guard⟩], some (2, true)⟩) (v := ?v11) rfl (by kernel_rfl) (by kernel_rfl) (by kernel_rfl) (fun _ _ _ h => h) (Or.inl ⟨by rfl, ?hy11⟩) (by assumption) ?r11
          case hy11 => (intro w hSw; (try dsimp only at hSw); go_simp; try with_reducible rfl)
          try simp only [Act.put, List.setIfInBounds_toArray, List.set_cons_zero, List.set_cons_succ]
          refine wpAnyH_take (i := 11) (oi := ⟨some 22, .indexAddr 24 (.tmp 20) (.tmp 21), 0, "l05_drv.go:105", #[⟨9, .data⟩, ⟨10, .data⟩, ⟨2, .guard⟩], some (2, true)⟩) (v := ?v12) rfl (by kernel_rfl) (by kernel_rfl) (by kernel_rfl) (fun _ _ _ h => h) (Or.inl ⟨by rfl, ?hy12⟩) (by assumption) ?r12
          case hy12 => (intro w hSw; (try dsimp only at hSw); go_simp; try with_reducible rfl)
          try simp only [Act.put, List.setIfInBounds_toArray, List.set_cons_zero, List.set_cons_succ]
          refine wpAnyH_take (i := 12) (oi := ⟨some 23, .load 29 (.tmp 22), 29, "l05_drv.go:105", #[⟨11, .data⟩, ⟨2, .guard⟩], some (2, true)⟩) (v := ?v13) rfl (by kernel_rfl) (by kernel_rfl) (by kernel_rfl) (fun _ _ _ h => h) (Or.inl ⟨by rfl, ?hy13⟩) (by assumption) ?r13
          case hy13 => (intro w hSw; (try dsimp only at hSw); go_simp; try with_reducible rfl)
          try simp only [Act.put, List.setIfInBounds_toArray, List.set_cons_zero, List.set_cons_succ]
          refine wpAnyH_ready (rs := [13]) (by kernel_rfl) (by simp) ?_
          refine AllReadyH.cons (o := ⟨some 24, .call { callee := .value (.tmp 14), args := #[.tmp 19, .tmp 23], argTypes := #[29, 29] }, 4, "l05_drv.go:105", #[⟨3, .data⟩, ⟨8, .data⟩, ⟨12, .data⟩, ⟨2, .chain⟩, ⟨2, .guard⟩], some (2, true)⟩) rfl (fun K hK => ?_) AllReadyH.nil
          go_simp
          (go_at_call 91; refine (HLE.out _).mono ?_; rintro e w2 ⟨rfl, hl2⟩; have hb2 : Below w.heap.size w w2 := HBE.out.drew.trans (hl2.mono HBE.out.size))
          try go_wp2_with fail
          refine hK.out _ _ (HCC.out _ hb2) (fun hHeld => ?_)
          clear hK K
          try simp only [Act.put, List.setIfInBounds_toArray, List.set_cons_zero, List.set_cons_succ]
          refine wpAnyH_take (i := 14) (oi := ⟨some 25, .unOp .not 4 (.tmp 24), 4, "l05_drv.go:105", #[⟨13, .data⟩, ⟨2, .guard⟩], some (2, true)⟩) (v := ?v14) rfl (by kernel_rfl) (by kernel_rfl) (by kernel_rfl) (fun _ _ _ h => h) (Or.inl ⟨by rfl, ?hy14⟩) (by assumption) ?r14
          case hy14 => (intro w hSw; (try dsimp only at hSw); go_simp; try with_reducible rfl)
          try simp only [Act.put, List.setIfInBounds_toArray, List.set_cons_zero, List.set_cons_succ]
          refine wpAnyH_take (i := 15) (oi := ⟨some 26, .pick (.tmp 13) (.tmp 25) (.const (.bool false)), 4, "l05_drv.go:105", #[⟨2, .data⟩, ⟨14, .data⟩], none⟩) (v := ?v15) rfl (by kernel_rfl) (by kernel_rfl) (by kernel_rfl) (fun _ _ _ h => h) (Or.inl ⟨by rfl, ?hy15⟩) (by assumption) ?r15
          case hy15 => (intro w hSw; (try dsimp only at hSw); go_simp; try with_reducible rfl)
          try simp only [Act.put, List.setIfInBounds_toArray, List.set_cons_zero, List.set_cons_succ]
          refine wpAnyH_done (by kernel_rfl) ?_ _
          go_wp2_with fail
          go_roundw
          case rel => exact ⟨i + 1, by omega, by go_num, HN.out, hb2⟩
          case measure => simp [intOf] <;> omega
        | false =>
          rw [hbl] at HLE
          have HF : Hid (¬ Adj E n) := fun h => by
            have h2 := h K (by have := HKk.out; omega)
            rw [show K + 1 = i from HKk.out.symm, HPK.out, HPI.out] at h2
            have := bl M P
            rw [hbl] at this
            simp at this
            exact absurd h2 (List.not_lt.2 this)
          clear hbl
          go_wp2_with fail
          refine wp_region_held_drew (S := fun w' => (w'.cell? ⟨b, o + K * 4, none⟩ = some (.string M) ∧ w'.cell? ⟨b, o + K * 4 + 1, none⟩ = some (.int .i64 kM) ∧ w'.cell? ⟨b, o + K * 4 + 2, none⟩ = some (.string dM) ∧ w'.cell? ⟨b, o + K * 4 + 3, none⟩ = some (.bool xM)) ∧ w'.cell? ⟨b, o + i * 4, none⟩ = some (.string P) ∧ w'.cell? ⟨b, o + i * 4 + 1, none⟩ = some (.int .i64 kP) ∧ w'.cell? ⟨b, o + i * 4 + 2, none⟩ = some (.string dP) ∧ w'.cell? ⟨b, o + i * 4 + 3, none⟩ = some (.bool xP)) (by kernel_rfl) (HCC.out _ HBE.out.drew) (fun hHeld => ?_)
          refine wpAnyH_take (i := 0) (oi := ⟨some 11, .move (.tmp 5), 3, "l05_drv.go:105", #[], none⟩) (v := ?v16) rfl (by kernel_rfl) (by kernel_rfl) (by kernel_rfl) (fun _ _ _ h => h) (Or.inl ⟨by rfl, ?hy16⟩) (by assumption) ?r16
          case hy16 => (intro w hSw; (try dsimp only at hSw); go_simp; try with_reducible rfl)
          try simp only [Act.put, List.setIfInBounds_toArray, List.set_cons_zero, List.set_cons_succ]
          refine wpAnyH_take (i := 1) (oi := ⟨some 12, .binOp .gtr 3 (.tmp 11) (.const (.int .i64 0)) 3, 4, "l05_drv.go:105", #[⟨0, .data⟩], none⟩) (v := ?v17) rfl (by kernel_rfl) (by kernel_rfl) (by kernel_rfl) (fun _ _ _ h => h) (Or.inl ⟨by rfl, ?hy17⟩) (by assumption) ?r17
          case hy17 => (intro w hSw; (try dsimp only at hSw); go_simp; try with_reducible rfl)
          try simp only [Act.put, List.setIfInBounds_toArray, List.set_cons_zero, List.set_cons_succ]
          refine wpAnyH_take (i := 2) (oi := ⟨some 13, .move (.tmp 12), 4, "l05_drv.go:105", #[⟨1, .data⟩], none⟩) (v := ?v18) rfl (by kernel_rfl) (by kernel_rfl) (by kernel_rfl) (fun _ _ _ h => h) (Or.inl ⟨by rfl, ?hy18⟩) (by assumption) ?r18
          case hy18 => (intro w hSw; (try dsimp only at hSw); go_simp; try with_reducible rfl)
          try simp only [Act.put, List.setIfInBounds_toArray, List.set_cons_zero, List.set_cons_succ]
          refine wpAnyH_take (i := 3) (oi := ⟨some 14, .move (.tmp 1), 121, "l05_drv.go:105", #[⟨2, .guard⟩], some (2, true)⟩) (v := ?v19) rfl (by kernel_rfl) (by kernel_rfl) (by kernel_rfl) (fun _ _ _ h => h) (Or.inl ⟨by rfl, ?hy19⟩) (by assumption) ?r19
          case hy19 => (intro w hSw; (try dsimp only at hSw); go_simp; try with_reducible rfl)
          try simp only [Act.put, List.setIfInBounds_toArray, List.set_cons_zero, List.set_cons_succ]
          refine wpAnyH_take (i := 4) (oi := ⟨some 15, .move (.tmp 0), 24, "l05_drv.go:105", #[⟨2, .guard⟩], some (2, true)⟩) (v := ?v20) rfl (by kernel_rfl) (by kernel_rfl) (by kernel_rfl) (fun _ _ _ h => h) (Or.inl ⟨by rfl, ?hy20⟩) (by assumption) ?r20
          case hy20 => (intro w hSw; (try dsimp only at hSw); go_simp; try with_reducible rfl)
          try simp only [Act.put, List.setIfInBounds_toArray, List.set_cons_zero, List.set_cons_succ]
          refine wpAnyH_take (i := 5) (oi := ⟨some 16, .move (.tmp 5), 3, "l05_drv.go:105", #[⟨2, .guard⟩], some (2, true)⟩) (v := ?v21) rfl (by kernel_rfl) (by kernel_rfl) (by kernel_rfl) (fun _ _ _ h => h) (Or.inl ⟨by rfl, ?hy21⟩) (by assumption) ?r21
          case hy21 => (intro w hSw; (try dsimp only at hSw); go_simp; try with_reducible rfl)
          try simp only [Act.put, List.setIfInBounds_toArray, List.set_cons_zero, List.set_cons_succ]
          refine wpAnyH_take (i := 6) (oi := ⟨some 17, .binOp .sub 3 (.tmp 16) (.const (.int .i64 1)) 3, 3, "l05_drv.go:105", #[⟨5, .data⟩, ⟨2, .guard⟩], some (2, true)⟩) (v := ?v22) rfl (by kernel_rfl) (by kernel_rfl) (by kernel_rfl) (fun _ _ _ h => h) (Or.inl ⟨by rfl, ?hy22⟩) (by assumption) ?r22
          case hy22 => (intro w hSw; (try dsimp only at hSw); go_simp; try with_reducible rfl)
          try simp only [Act.put, List.setIfInBounds_toArray, List.set_cons_zero, List.set_cons_succ]
          refine wpAnyH_take (i := 7) (oi := ⟨some 18, .indexAddr 24 (.tmp 15) (.tmp 17), 0, "l05_drv.go:105", #[⟨4, .data⟩, ⟨6, .data⟩, ⟨2, .guard⟩], some (2, true)⟩) (v := ?v23) rfl (by kernel_rfl) (by kernel_rfl) (by kernel_rfl) (fun _ _ _ h => h) (Or.inl ⟨by rfl, ?hy23⟩) (by assumption) ?r23
          case hy23 => (intro w hSw; (try dsimp only at hSw); go_simp; try with_reducible rfl)
          try simp only [Act.put, List.setIfInBounds_toArray, List.set_cons_zero, List.set_cons_succ]
          refine wpAnyH_take (i := 8) (oi := ⟨some 19, .load 29 (.tmp 18), 29, "l05_drv.go:105", #[⟨7, .data⟩, ⟨2, .guard⟩], some (2, true)⟩) (v := ?v24) rfl (by kernel_rfl) (by kernel_rfl) (by kernel_rfl) (fun _ _ _ h => h) (Or.inl ⟨by rfl, ?hy24⟩) (by assumption) ?r24
          case hy24 => (intro w hSw; (try dsimp only at hSw); go_simp; try with_reducible rfl)
          try simp only [Act.put, List.setIfInBounds_toArray, List.set_cons_zero, List.set_cons_succ]
          refine wpAnyH_take (i := 9) (oi := ⟨some 20, .move (.tmp 0), 24, "l05_drv.go:105", #[⟨2, .guard⟩], some (2, true)⟩) (v := ?v25) rfl (by kernel_rfl) (by kernel_rfl) (by kernel_rfl) (fun _ _ _ h => h) (Or.inl ⟨by rfl, ?hy25⟩) (by assumption) ?r25
          case hy25 => (intro w hSw; (try dsimp only at hSw); go_simp; try with_reducible rfl)
          try simp only [Act.put, List.setIfInBounds_toArray, List.set_cons_zero, List.set_cons_succ]
          refine wpAnyH_take (i := 10) (oi := ⟨some 21, .move (.tmp 5), 3, "l05_drv.go:105", #[⟨2, .guard⟩], some (2, true)⟩) (v := ?v26) rfl (by kernel_rfl) (by kernel_rfl) (by kernel_rfl) (fun _ _ _ h => h) (Or.inl ⟨by rfl, ?hy26⟩) (by assumption) ?r26
          case hy26 => (intro w hSw; (try dsimp only at hSw); go_simp; try with_reducible rfl)
          try simp only [Act.put, List.setIfInBounds_toArray, List.set_cons_zero, List.set_cons_succ]
          refine wpAnyH_take (i := 11) (oi := ⟨some 22, .indexAddr 24 (.tmp 20) (.tmp 21), 0, "l05_drv.go:105", #[⟨9, .data⟩, ⟨10, .data⟩, ⟨2, .guard⟩], some (2, true)⟩) (v := ?v27) rfl (by kernel_rfl) (by kernel_rfl) (by kernel_rfl) (fun _ _ _ h => h) (Or.inl ⟨by rfl, ?hy27⟩) (by assumption) ?r27
          case hy27 => (intro w hSw; (try dsimp only at hSw); go_simp; try with_reducible rfl)
          try simp only [Act.put, List.setIfInBounds_toArray, List.set_cons_zero, List.set_cons_succ]
          refine wpAnyH_take (i := 12) (oi := ⟨some 23, .load 29 (.tmp 22), 29, "l05_drv.go:105", #[⟨11, .data⟩, ⟨2, .guard⟩], some (2, true)⟩) (v := ?v28) rfl (by kernel_rfl) (by kernel_rfl) (by kernel_rfl) (fun _ _ _ h => h) (Or.inl ⟨by rfl, ?hy28⟩) (by assumption) ?r28
          case hy28 => (intro w hSw; (try dsimp only at hSw); go_simp; try with_reducible rfl)
          try simp only [Act.put, List.setIfInBounds_toArray, List.set_cons_zero, List.set_cons_succ]
          refine wpAnyH_ready (rs := [13]) (by kernel_rfl) (by simp) ?_
          refine AllReadyH.cons (o := ⟨some 24, .call { callee := .value (.tmp 14), args := #[.tmp 19, .tmp 23], argTypes := #[29, 29] }, 4, "l05_drv.go:105", #[⟨3, .data⟩, ⟨8, .data⟩, ⟨12, .data⟩, ⟨2, .chain⟩, ⟨2, .guard⟩], some (2, true)⟩) rfl (fun K hK => ?_) AllReadyH.nil
          go_simp
          (go_at_call 91; refine (HLE.out _).mono ?_; rintro e w2 ⟨rfl, hl2⟩; have hb2 : Below w.heap.size w w2 := HBE.out.drew.trans (hl2.mono HBE.out.size))
          try go_wp2_with fail
          refine hK.out _ _ (HCC.out _ hb2) (fun hHeld => ?_)
          clear hK K
          try simp only [Act.put, List.setIfInBounds_toArray, List.set_cons_zero, List.set_cons_succ]
          refine wpAnyH_take (i := 14) (oi := ⟨some 25, .unOp .not 4 (.tmp 24), 4, "l05_drv.go:105", #[⟨13, .data⟩, ⟨2, .guard⟩], some (2, true)⟩) (v := ?v29) rfl (by kernel_rfl) (by kernel_rfl) (by kernel_rfl) (fun _ _ _ h => h) (Or.inl ⟨by rfl, ?hy29⟩) (by assumption) ?r29
          case hy29 => (intro w hSw; (try dsimp only at hSw); go_simp; try with_reducible rfl)
          try simp only [Act.put, List.setIfInBounds_toArray, List.set_cons_zero, List.set_cons_succ]
          refine wpAnyH_take (i := 15) (oi := ⟨some 26, .pick (.tmp 13) (.tmp 25) (.const (.bool false)), 4, "l05_drv.go:105", #[⟨2, .data⟩, ⟨14, .data⟩], none⟩) (v := ?v30) rfl (by kernel_rfl) (by kernel_rfl) (by kernel_rfl) (fun _ _ _ h => h) (Or.inl ⟨by rfl, ?hy30⟩) (by assumption) ?r30
          case hy30 => (intro w hSw; (try dsimp only at hSw); go_simp; try with_reducible rfl)
          try simp only [Act.put, List.setIfInBounds_toArray, List.set_cons_zero, List.set_cons_succ]
          refine wpAnyH_done (by kernel_rfl) ?_ _
          go_wp2_with fail
          go_ret
          exact ⟨by rw [adjB_no HF.out]; first | done | rfl, hb2⟩
      · have hi1' : ¬ (0 : Int) < (i : Int) := by omega
        have HN : Hid (Adj E (i + 1)) := fun j hj => by omega
        clear hbel
        go_wp2_with fail
        refine wp_region_held_drew (S := fun _ => True) (by kernel_rfl) (trivial) (fun hHeld => ?_)
        refine wpAnyH_take (i := 0) (oi := ⟨some 11, .move (.tmp 5), 3, "l05_drv.go:105", #[], none⟩) (v := ?v31) rfl (by kernel_rfl) (by kernel_rfl) (by kernel_rfl) (fun _ _ _ h => h) (Or.inl ⟨by rfl, ?hy31⟩) (by assumption) ?r31
        case hy31 => (intro w hSw; (try dsimp only at hSw); go_simp; try with_reducible rfl)
        try simp only [Act.put, List.setIfInBounds_toArray, List.set_cons_zero, List.set_cons_succ]
        refine wpAnyH_take (i := 1) (oi := ⟨some 12, .binOp .gtr 3 (.tmp 11) (.const (.int .i64 0)) 3, 4, "l05_drv.go:105", #[⟨0, .data⟩], none⟩) (v := ?v32) rfl (by kernel_rfl) (by kernel_rfl) (by kernel_rfl) (fun _ _ _ h => h) (Or.inl ⟨by rfl, ?hy32⟩) (by assumption) ?r32
        case hy32 => (intro w hSw; (try dsimp only at hSw); go_simp; try with_reducible rfl)
        try simp only [Act.put, List.setIfInBounds_toArray, List.set_cons_zero, List.set_cons_succ]
        refine wpAnyH_take (i := 2) (oi := ⟨some 13, .move (.tmp 12), 4, "l05_drv.go:105", #[⟨1, .data⟩], none⟩) (v := ?v33) rfl (by kernel_rfl) (by kernel_rfl) (by kernel_rfl) (fun _ _ _ h => h) (Or.inl ⟨by rfl, ?hy33⟩) (by assumption) ?r33
        case hy33 => (intro w hSw; (try dsimp only at hSw); go_simp; try with_reducible rfl)
        try simp only [Act.put, List.setIfInBounds_toArray, List.set_cons_zero, List.set_cons_succ]
        refine wpAnyH_take (i := 3) (oi := ⟨some 14, .move (.tmp 1), 121, "l05_drv.go:105", #[⟨2, .guard⟩], some (2, true)⟩) (v := undef) rfl (by kernel_rfl) (by kernel_rfl) (by kernel_rfl) (fun _ _ _ h => h) (Or.inr ⟨by rfl, rfl⟩) (by assumption) ?_
        try simp only [Act.put, List.setIfInBounds_toArray, List.set_cons_zero, List.set_cons_succ]
        refine wpAnyH_take (i := 4) (oi := ⟨some 15, .move (.tmp 0), 24, "l05_drv.go:105", #[⟨2, .guard⟩], some (2, true)⟩) (v := undef) rfl (by kernel_rfl) (by kernel_rfl) (by kernel_rfl) (fun _ _ _ h => h) (Or.inr ⟨by rfl, rfl⟩) (by assumption) ?_
        try simp only [Act.put, List.setIfInBounds_toArray, List.set_cons_zero, List.set_cons_succ]
        refine wpAnyH_take (i := 5) (oi := ⟨some 16, .move (.tmp 5), 3, "l05_drv.go:105", #[⟨2, .guard⟩], some (2, true)⟩) (v := undef) rfl (by kernel_rfl) (by kernel_rfl) (by kernel_rfl) (fun _ _ _ h => h) (Or.inr ⟨by rfl, rfl⟩) (by assumption) ?_
        try simp only [Act.put, List.setIfInBounds_toArray, List.set_cons_zero, List.set_cons_succ]
        refine wpAnyH_take (i := 6) (oi := ⟨some 17, .binOp .sub 3 (.tmp 16) (.const (.int .i64 1)) 3, 3, "l05_drv.go:105", #[⟨5, .data⟩, ⟨2, .guard⟩], some (2, true)⟩) (v := undef) rfl (by kernel_rfl) (by kernel_rfl) (by kernel_rfl) (fun _ _ _ h => h) (Or.inr ⟨by rfl, rfl⟩) (by assumption) ?_
        try simp only [Act.put, List.setIfInBounds_toArray, List.set_cons_zero, List.set_cons_succ]
        refine wpAnyH_take (i := 7) (oi := ⟨some 18, .indexAddr 24 (.tmp 15) (.tmp 17), 0, "l05_drv.go:105", #[⟨4, .data⟩, ⟨6, .data⟩, ⟨2, .guard⟩], some (2, true)⟩) (v := undef) rfl (by kernel_rfl) (by kernel_rfl) (by kernel_rfl) (fun _ _ _ h => h) (Or.inr ⟨by rfl, rfl⟩) (by assumption) ?_
        try simp only [Act.put, List.setIfInBounds_toArray, List.set_cons_zero, List.set_cons_succ]
        refine wpAnyH_take (i := 8) (oi := ⟨some 19, .load 29 (.tmp 18), 29, "l05_drv.go:105", #[⟨7, .data⟩, ⟨2, .guard⟩], some (2, true)⟩) (v := undef) rfl (by kernel_rfl) (by kernel_rfl) (by kernel_rfl) (fun _ _ _ h => h) (Or.inr ⟨by rfl, rfl⟩) (by assumption) ?_
        try simp only [Act.put, List.setIfInBounds_toArray, List.set_cons_zero, List.set_cons_succ]
        refine wpAnyH_take (i := 9) (oi := ⟨some 20, .move (.tmp 0), 24, "l05_drv.go:105", #[⟨2, .guard⟩], some (2, true)⟩) (v := undef) rfl (by kernel_rfl) (by kernel_rfl) (by kernel_rfl) (fun _ _ _ h => h) (Or.inr ⟨by rfl, rfl⟩) (by assumption) ?_
        try simp only [Act.put, List.setIfInBounds_toArray, List.set_cons_zero, List.set_cons_succ]
        refine wpAnyH_take (i := 10) (oi := ⟨some 21, .move (.tmp 5), 3, "l05_drv.go:105", #[⟨2, .guard⟩], some (2, true)⟩) (v := undef) rfl (by kernel_rfl) (by kernel_rfl) (by kernel_rfl) (fun _ _ _ h => h) (Or.inr ⟨by rfl, rfl⟩) (by assumption) ?_
        try simp only [Act.put, List.setIfInBounds_toArray, List.set_cons_zero, List.set_cons_succ]
        refine wpAnyH_take (i := 11) (oi := ⟨some 22, .indexAddr 24 (.tmp 20) (.tmp 21), 0, "l05_drv.go:105", #[⟨9, .data⟩, ⟨10, .data⟩, ⟨2, .guard⟩], some (2, true)⟩) (v := undef) rfl (by kernel_rfl) (by kernel_rfl) (by kernel_rfl) (fun _ _ _ h => h) (Or.inr ⟨by rfl, rfl⟩) (by assumption) ?_
        try simp only [Act.put, List.setIfInBounds_toArray, List.set_cons_zero, List.set_cons_succ]
        refine wpAnyH_take (i := 12) (oi := ⟨some 23, .load 29 (.tmp 22), 29, "l05_drv.go:105", #[⟨11, .data⟩, ⟨2, .guard⟩], some (2, true)⟩) (v := undef) rfl (by kernel_rfl) (by kernel_rfl) (by kernel_rfl) (fun _ _ _ h => h) (Or.inr ⟨by rfl, rfl⟩) (by assumption) ?_
        try simp only [Act.put, List.setIfInBounds_toArray, List.set_cons_zero, List.set_cons_succ]
        refine wpAnyH_take (i := 13) (oi := ⟨some 24, .call { callee := .value (.tmp 14), args := #[.tmp 19, .tmp 23], argTypes := #[29, 29] }, 4, "l05_drv.go:105", #[⟨3, .data⟩, ⟨8, .data⟩, ⟨12, .data⟩, ⟨2, .chain⟩, ⟨2, .guard⟩], some (2, true)⟩) (v := undef) rfl (by kernel_rfl) (by kernel_rfl) (by kernel_rfl) (fun _ _ _ h => h) (Or.inr ⟨by rfl, rfl⟩) (by assumption) ?_
        try simp only [Act.put, List.setIfInBounds_toArray, List.set_cons_zero, List.set_cons_succ]
        refine wpAnyH_take (i := 14) (oi := ⟨some 25, .unOp .not 4 (.tmp 24), 4, "l05_drv.go:105", #[⟨13, .data⟩, ⟨2, .guard⟩], some (2, true)⟩) (v := undef) rfl (by kernel_rfl) (by kernel_rfl) (by kernel_rfl) (fun _ _ _ h => h) (Or.inr ⟨by rfl, rfl⟩) (by assumption) ?_
        try simp only [Act.put, List.setIfInBounds_toArray, List.set_cons_zero, List.set_cons_succ]
        refine wpAnyH_take (i := 15) (oi := ⟨some 26, .pick (.tmp 13) (.tmp 25) (.const (.bool false)), 4, "l05_drv.go:105", #[⟨2, .data⟩, ⟨14, .data⟩], none⟩) (v := ?v34) rfl (by kernel_rfl) (by kernel_rfl) (by kernel_rfl) (fun _ _ _ h => h) (Or.inl ⟨by rfl, ?hy34⟩) (by assumption) ?r34
        case hy34 => (intro w hSw; (try dsimp only at hSw); go_simp; try with_reducible rfl)
        try simp only [Act.put, List.setIfInBounds_toArray, List.set_cons_zero, List.set_cons_succ]
        refine wpAnyH_done (by kernel_rfl) ?_ _
        go_wp2_with fail
        go_roundw
        case rel => exact ⟨i + 1, by omega, by go_num, HN.out, HBE.out.drew⟩
        case measure => simp [intOf] <;> omega
    · have hil' : ¬ (i : Int) < (n : Int) := by omega
      obtain rfl : i = n := by omega
      clear hbel
      go_wp2
      go_ret
      exact ⟨by rw [adjB_yes HAD.out]; first | done | rfl, HBE.out⟩

end Go.Proofs.YtaoimkjcaienbaaGreatDoor.tt

namespace Go.Proofs.YtaoimkjcaienbaaGreatDoor.tt
open Go.ChangeShapes Go.WideShapes Go.ChangeAt Go.RowKit Go.Deep Go.Maps
set_option linter.unusedVariables false
set_option linter.unusedSimpArgs false

/-! ### Trees of files: hold and newBranch, each in one form, out of what at is shown to do -/

/-- What at does at branches that stand. -/
def AtC (E : Nat → En) : Prop := ∀ (W : World) (k rb rm N : Nat) (B M : Nat → Nat), Br W E k rb rm N B M → Tr E k → ML W → ∀ U : ByteArray, U.size ≤ 1048576 → Calls Tryz.prog 77 #[.pointer (some ⟨rb, 0, none⟩), .string U] W fun e w' => e = .returned (ptr (chd E B k U.data.toList)) ∧ Below W.heap.size W w'

theorem lst_zero {s : ByteArray} (h : pOk s = true) : lst s.data.toList ≠ some 0 := fun e => by
  have h1 := (lst_some e).1
  unfold pOk at h
  cases hl : s.data.toList with
  | nil => rw [hl] at h1; simp at h1
  | cons b l =>
    rw [hl] at h1 h
    have hb : b = 47 := by simpa using h1
    rw [pk, if_pos hb, name_nil] at h
    simp at h

/-- The directory that a path wants is there. -/
def Wants (E : Nat → En) (k : Nat) (p : List UInt8) : Prop := up p ≠ [] → Dir E k (up p)

/-- Where a branch was put. -/
def Put (w w' : World) (E : Nat → En) (k rm N : Nat) (B M : Nat → Nat) (p : List UInt8) (nb : Nat) : Prop := ∃ w1 mb pre name, Below w.heap.size w w1 ∧ w1.grownBy w' (some mb) ∧ p = pre ++ name ∧ lst name = none ∧ ((pre = [] ∧ mb = rm) ∨ ∃ j, j < k ∧ (E j).kind = 1 ∧ mb = M j ∧ pre = pth E j ++ [47]) ∧ PM w' mb (N + 1) (fun x => if x = name then nb + 1 else fM E B k pre x)

theorem cut_at {l : List UInt8} {i : Nat} (h : lst l = some i) : l = (l.take i ++ [47]) ++ l.drop (i + 1) ∧ lst (l.drop (i + 1)) = none := by
  obtain ⟨h1, h2⟩ := lst_some h
  obtain ⟨hlt, he⟩ := List.getElem?_eq_some_iff.1 h1
  constructor
  · have := List.take_append_drop i l
    rw [List.drop_eq_getElem_cons hlt, he] at this
    rw [List.append_assoc]
    exact this.symm
  · refine lst_no fun j e => ?_
    rw [List.getElem?_drop] at e
    exact h2 (i + 1 + j) (by omega) e

theorem up_some {l : List UInt8} {i : Nat} (h : lst l = some i) : up l = l.take i := by unfold up; rw [h]
theorem up_none {l : List UInt8} (h : lst l = none) : up l = [] := by unfold up; rw [h]

theorem take_ne {l : List UInt8} {i : Nat} (h : lst l = some i) (h0 : i ≠ 0) : l.take i ≠ [] := fun e => by
  have := congrArg List.length e
  have hlt := (List.getElem?_eq_some_iff.1 (lst_some h).1).1
  rw [List.length_take, List.length_nil] at this
  omega

theorem hold_yes {w : World} {E : Nat → En} {k rb rm N : Nat} {B M : Nat → Nat} (h : Br w E k rb rm N B M) (hT : Tr E k) (hm : ML w) (hC : AtC E) (P : ByteArray) (hP : P.size ≤ 1048576) (hpk : pOk P = true) (nb : Nat) (hN : N ≤ 100000) (hw : Wants E k P.data.toList) :
    Calls Tryz.prog 93 #[.pointer (some ⟨rb, 0, none⟩), .string P, .pointer (some ⟨nb, 0, none⟩)] w fun e w' => e = .returned (.bool true) ∧ Put w w' E k rm N B M P.data.toList nb := by
  cases hl : lst P.data.toList with
  | none =>
    refine (hold_root h P hP hl nb hN).mono ?_
    rintro e w' ⟨rfl, hg, hp⟩
    exact ⟨rfl, w, rm, [], P.data.toList, Below.refl _ _, hg, rfl, hl, .inl ⟨rfl, rfl⟩, hp⟩
  | some i =>
    have hi0 : i ≠ 0 := fun e => by subst e; exact lst_zero hpk hl
    have hz : P.data.toList.length = P.size := by simp
    have hi : i < P.size := by have := (List.getElem?_eq_some_iff.1 (lst_some hl).1).1; omega
    obtain ⟨j, hj, hpj, hk⟩ := hw (by rw [up_some hl]; exact take_ne hl hi0)
    rw [up_some hl] at hpj
    have hat : ∀ W, Below w.heap.size w W → Calls Tryz.prog 77 #[.pointer (some ⟨rb, 0, none⟩), .string (P.extract 0 i)] W fun e w' => e = .returned (.pointer (some ⟨B j, 0, none⟩)) ∧ Below W.heap.size W w' := fun W hb => by
      have := hC W k rb rm N B M (h.below hb) hT (hm.below hb) (P.extract 0 i) (by simp; omega)
      rw [ext_take (by omega), chd_yes hT.asc hj hpj] at this
      exact this
    refine (hold_dir h P hP i hl nb j hN hj hk hat).mono ?_
    rintro e w' ⟨rfl, w1, hb1, hg, hp⟩
    obtain ⟨c1, c2⟩ := cut_at hl
    exact ⟨rfl, w1, M j, pth E j ++ [47], P.data.toList.drop (i + 1), hb1, hg, by rw [hpj]; exact c1, c2, .inr ⟨j, hj, hk, rfl, rfl⟩, hp⟩

theorem hold_not {w : World} {E : Nat → En} {k rb rm N : Nat} {B M : Nat → Nat} (h : Br w E k rb rm N B M) (hT : Tr E k) (hm : ML w) (hC : AtC E) (P : ByteArray) (hP : P.size ≤ 1048576) (nb : Nat) (hw : ¬ Wants E k P.data.toList) :
    Calls Tryz.prog 93 #[.pointer (some ⟨rb, 0, none⟩), .string P, .pointer (some ⟨nb, 0, none⟩)] w fun e w' => e = .returned (.bool false) ∧ Below w.heap.size w w' := by
  have hne : up P.data.toList ≠ [] := fun e => hw (fun h => absurd e h)
  have hnd : ¬ Dir E k (up P.data.toList) := fun e => hw (fun _ => e)
  cases hl : lst P.data.toList with
  | none => exact absurd (up_none hl) hne
  | some i =>
    have hz : P.data.toList.length = P.size := by simp
    have hi : i < P.size := by have := (List.getElem?_eq_some_iff.1 (lst_some hl).1).1; omega
    rw [up_some hl] at hnd
    have hat : ∀ W, Below w.heap.size w W → Calls Tryz.prog 77 #[.pointer (some ⟨rb, 0, none⟩), .string (P.extract 0 i)] W fun e w' => e = .returned (ptr (chd E B k (P.data.toList.take i))) ∧ Below W.heap.size W w' := fun W hb => by
      have := hC W k rb rm N B M (h.below hb) hT (hm.below hb) (P.extract 0 i) (by simp; omega)
      rwa [ext_take (by omega)] at this
    rcases chd_cases E B k (P.data.toList.take i) with ⟨j, hj, hpj, e⟩ | ⟨_, e⟩
    · rw [e] at hat
      exact hold_leaf h P hP i hl nb j hj (fun hk => hnd ⟨j, hj, hpj, hk⟩) hat
    · rw [e] at hat
      exact hold_none P hP i hl nb hat

/-- A new branch, of whatever kind. -/
theorem new_any (num k : Int) (w : World) :
    Calls Tryz.prog 92 #[.int .i64 num, .int .i64 k] w fun e w' => e = .returned (.pointer (some ⟨w.heap.size, 0, none⟩)) ∧ w'.cell? ⟨w.heap.size, 0, none⟩ = some (.int .i64 num) ∧ (k = 1 → w'.cell? ⟨w.heap.size, 1, none⟩ = some (.map (some (w.heap.size + 1))) ∧ PM w' (w.heap.size + 1) 0 (fun _ => 0)) ∧ (¬ k = 1 → w'.cell? ⟨w.heap.size, 1, none⟩ = some (.map none)) ∧ Below w.heap.size w w' := by
  by_cases hk : k = 1
  · subst hk
    refine (new_dir num w).mono ?_
    rintro e w' ⟨rfl, h1, h2, h3, _, h5⟩
    exact ⟨rfl, h1, fun _ => ⟨h2, h3⟩, fun h => absurd rfl h, h5⟩
  · refine (new_leaf num k hk w).mono ?_
    rintro e w' ⟨rfl, h1, h2, _, h5⟩
    exact ⟨rfl, h1, fun h => absurd h hk, fun _ => h2, h5⟩

end Go.Proofs.YtaoimkjcaienbaaGreatDoor.tt
