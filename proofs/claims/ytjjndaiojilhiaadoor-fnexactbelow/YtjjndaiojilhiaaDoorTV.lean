import Derived.Test.YtjjndaiojilhiaaDoorTU
namespace Go.Proofs.YtjjndaiojilhiaaDoor.tt
open Go.ChangeShapes Go.WideShapes Go.ChangeAt Go.RowKit Go.Deep Go.Maps
set_option linter.unusedVariables false
set_option linter.unusedSimpArgs false

/-! ### Trees of files: a branch is held -/

theorem PM.put {w' : World} {b N n : Nat} {f : List UInt8 → Nat} {D : DataW Unit} {t : List UInt8} (hm : IsMap D) (h : ∀ x, D.atKey (.string x) (.lit (.int .i64 0)) = .lit (.int .i64 (f x : Int))) (hz : ∀ x, Maps.has D (.string x) = true → f x ≠ 0) (hn : n ≠ 0) (h2 : w'.ownsMap Tryd.prog 9 rdP b (N + 1) (D.put (.string t) (.lit (.int .i64 (n : Int))))) : PM w' b (N + 1) (fun x => if x = t then n else f x) :=
  ⟨_, h2, put_at hm h t n, fun x hx => by
    by_cases e : x = t
    · show (if x = t then n else f x) ≠ 0; rw [if_pos e]; exact hn
    · show (if x = t then n else f x) ≠ 0; rw [if_neg e]
      rw [has_put_other (by simpa using e)] at hx
      exact hz x hx⟩

set_option maxHeartbeats 2000000 in
set_option maxRecDepth 100000 in
theorem hold_root {w : World} {E : Nat → En} {k rb rm N : Nat} {B M : Nat → Nat} (h : Br w E k rb rm N B M) (P : ByteArray) (hP : P.size ≤ 1048576) (hl : lst P.data.toList = none) (nb : Nat) (hN : N ≤ 100000) :
    Calls Tryd.prog 43 #[.pointer (some ⟨rb, 0, none⟩), .string P, .pointer (some ⟨nb, 0, none⟩)] w fun e w' => e = .returned (.bool true) ∧ w.grownBy w' (some rm) ∧ PM w' rm (N + 1) (fun x => if x = P.data.toList then nb + 1 else fM E B k [] x) := by
  have c0 := h.root0
  have c1 := h.root1
  obtain ⟨D, d1, d2⟩ := h.rootM
  have hm : IsMap D := d1.isMap
  have HD : Hid (w.ownsMap Tryd.prog 9 rdP rm N D) := d1
  have HD2 : Hid (∀ x, D.atKey (.string x) (.lit (.int .i64 0)) = .lit (.int .i64 (fM E B k [] x : Int))) := d2.1
  have HNZ : Hid (∀ x, Maps.has D (.string x) = true → fM E B k [] x ≠ 0) := d2.2
  have HM : Hid (IsMap D) := hm
  have HLI : Hid (∀ W, Calls Tryd.prog 53 #[.string P, .string ⟨#[47]⟩] W fun e w' => e = .returned (.int .i64 (-1)) ∧ w' = W) := fun W => by
    have := last_any P hP W
    unfold lstI at this
    rwa [hl] at this
  have HKEY : Hid (keyOf Tryd.prog 9 (.string P) = some (.string P.data.toList)) := key9 P hP
  have HVAL : Hid (rdP (.pointer (some ⟨nb, 0, none⟩)) = some (.lit (.int .i64 ((nb + 1 : Nat) : Int)), [])) := rdP_ptr (nb + 1)
  have hnm : ∀ W : World, (binOp .eql 58 (.map (some rm)) (.map none)).run Tryd.prog W = .ok (.bool false) W := fun _ => rfl
  clear h d1 d2 hm
  go_enter Tryd.func43, Tryd.ntmps43
  go_wp2_with (first
    | (go_at_call 53; refine (HLI.out _).mono ?_; rintro e w1 ⟨rfl, hw1⟩; obtain rfl := hw1.symm; clear hw1)
    | (at_mapUpdate; refine wpList_mapUpdate_own _ rfl _ _ _ 58 rfl 9 40 (string_keyed Tryd.underlying9) Tryd.underlying58 rdP rm N D rfl HD.out (by unfold maxLen; omega) _ _ (.string P.data.toList) rfl rfl HKEY.out _ [] HVAL.out ?_; intro w2 hown2 hg2)
    | go_in)
  go_ret
  exact ⟨rfl, hg2, PM.put HM.out HD2.out HNZ.out (by omega) hown2⟩

theorem ext_take {s : ByteArray} {i : Nat} (h : i ≤ s.size) : (s.extract 0 i).data.toList = s.data.toList.take i := by rw [bytes_ext]; simp
theorem ext_drop {s : ByteArray} {i : Nat} (h : i ≤ s.size) : (s.extract i s.size).data.toList = s.data.toList.drop i := by
  have hz : s.data.toList.length = s.size := by simp
  rw [bytes_ext, List.take_of_length_le (by rw [List.length_drop, hz]; omega)]

set_option maxHeartbeats 4000000 in
set_option maxRecDepth 100000 in
theorem hold_dir {w : World} {E : Nat → En} {k rb rm N : Nat} {B M : Nat → Nat} (h : Br w E k rb rm N B M) (P : ByteArray) (hP : P.size ≤ 1048576) (i : Nat) (hl : lst P.data.toList = some i) (nb j : Nat) (hN : N ≤ 100000) (hj : j < k) (hk : (E j).kind = 1)
    (hat : ∀ W, Below w.heap.size w W → Calls Tryd.prog 32 #[.pointer (some ⟨rb, 0, none⟩), .string (P.extract 0 i)] W fun e w' => e = .returned (.pointer (some ⟨B j, 0, none⟩)) ∧ Below W.heap.size W w') :
    Calls Tryd.prog 43 #[.pointer (some ⟨rb, 0, none⟩), .string P, .pointer (some ⟨nb, 0, none⟩)] w fun e w' => e = .returned (.bool true) ∧ ∃ w1, Below w.heap.size w w1 ∧ w1.grownBy w' (some (M j)) ∧ PM w' (M j) (N + 1) (fun x => if x = P.data.toList.drop (i + 1) then nb + 1 else fM E B k (pth E j ++ [47]) x) := by
  have hz : P.data.toList.length = P.size := by simp
  have hi : i < P.size := by have := (List.getElem?_eq_some_iff.1 (lst_some hl).1).1; omega
  have HBR : Hid (∀ W, Below w.heap.size w W → Br W E k rb rm N B M) := fun W hb => h.below hb
  have HAT : Hid (∀ W, Below w.heap.size w W → Calls Tryd.prog 32 #[.pointer (some ⟨rb, 0, none⟩), .string (P.extract 0 i)] W fun e w' => e = .returned (.pointer (some ⟨B j, 0, none⟩)) ∧ Below W.heap.size W w') := hat
  have HLI : Hid (∀ W, Calls Tryd.prog 53 #[.string P, .string ⟨#[47]⟩] W fun e w' => e = .returned (.int .i64 (i : Int)) ∧ w' = W) := fun W => by
    have := last_any P hP W
    unfold lstI at this
    rwa [hl] at this
  have hi0 : (0 : Int) ≤ (i : Int) := by omega
  have hi1 : (i : Int) ≤ (P.size : Int) := by omega
  obtain ⟨t, htt⟩ : ∃ t, t = i + 1 := ⟨_, rfl⟩
  have HTT : Hid (t = i + 1) := htt
  have ht1 : (i : Int) + 1 = (t : Int) := by omega
  have ht2 : IntKind.i64.wrap ((i : Int) + 1) = (t : Int) := by rw [IntKind.wrap_i64]; omega
  have ht3 : IntKind.i64.wrap (t : Int) = (t : Int) := by rw [IntKind.wrap_i64]; omega
  have ht4 : (t : Int) ≤ (P.size : Int) := by omega
  have ht5 : (0 : Int) ≤ (t : Int) := by omega
  have HKEY : Hid (keyOf Tryd.prog 9 (.string (P.extract t P.size)) = some (.string (P.data.toList.drop (i + 1)))) := by
    show _ = _
    rw [key9 _ (by simp; omega), ext_drop (by omega), htt]
  have HVAL : Hid (rdP (.pointer (some ⟨nb, 0, none⟩)) = some (.lit (.int .i64 ((nb + 1 : Nat) : Int)), [])) := rdP_ptr (nb + 1)
  have hnm : ∀ W : World, (binOp .eql 58 (.map (some (M j))) (.map none)).run Tryd.prog W = .ok (.bool false) W := fun _ => rfl
  clear h hat hl hz htt
  go_enter Tryd.func43, Tryd.ntmps43
  go_wp2_with (go_at_call 53; refine (HLI.out _).mono ?_; rintro e w1 ⟨rfl, hw1⟩; obtain rfl := hw1.symm; clear hw1)
  go_region_held3 (fun _ => True)
    (trivial)
    (((go_at_call 32; refine (HAT.out _ (Below.refl _ _).drew).mono ?_; rintro e w2 ⟨rfl, hl2⟩; have hb2 : Below w.heap.size w w2 := (Below.refl w.heap.size w).drew.trans (hl2.mono (Nat.le_refl _)))))
  have hBR := HBR.out w2 hb2
  have c1 := (hBR.dir j hj hk).1
  obtain ⟨D, d1, d2⟩ := (hBR.dir j hj hk).2
  have HD : Hid (w2.ownsMap Tryd.prog 9 rdP (M j) N D) := d1
  have HD2 : Hid (∀ x, D.atKey (.string x) (.lit (.int .i64 0)) = .lit (.int .i64 (fM E B k (pth E j ++ [47]) x : Int))) := d2.1
  have HNZ : Hid (∀ x, Maps.has D (.string x) = true → fM E B k (pth E j ++ [47]) x ≠ 0) := d2.2
  have HM : Hid (IsMap D) := d1.isMap
  clear d1 d2 hBR
  go_wp2_with (first
    | (at_mapUpdate; refine wpList_mapUpdate_own _ rfl _ _ _ 58 rfl 9 40 (string_keyed Tryd.underlying9) Tryd.underlying58 rdP (M j) N D rfl HD.out (by unfold maxLen; omega) _ _ (.string (P.data.toList.drop (i + 1))) rfl rfl HKEY.out _ [] HVAL.out ?_; intro w3 hown3 hg3)
    | go_in)
  go_ret
  exact ⟨rfl, w2, hb2, hg3, PM.put HM.out HD2.out HNZ.out (by omega) hown3⟩

set_option maxHeartbeats 4000000 in
set_option maxRecDepth 100000 in
theorem hold_leaf {w : World} {E : Nat → En} {k rb rm N : Nat} {B M : Nat → Nat} (h : Br w E k rb rm N B M) (P : ByteArray) (hP : P.size ≤ 1048576) (i : Nat) (hl : lst P.data.toList = some i) (nb j : Nat) (hj : j < k) (hk : ¬ (E j).kind = 1)
    (hat : ∀ W, Below w.heap.size w W → Calls Tryd.prog 32 #[.pointer (some ⟨rb, 0, none⟩), .string (P.extract 0 i)] W fun e w' => e = .returned (.pointer (some ⟨B j, 0, none⟩)) ∧ Below W.heap.size W w') :
    Calls Tryd.prog 43 #[.pointer (some ⟨rb, 0, none⟩), .string P, .pointer (some ⟨nb, 0, none⟩)] w fun e w' => e = .returned (.bool false) ∧ Below w.heap.size w w' := by
  have hz : P.data.toList.length = P.size := by simp
  have hi : i < P.size := by have := (List.getElem?_eq_some_iff.1 (lst_some hl).1).1; omega
  have HBR : Hid (∀ W, Below w.heap.size w W → Br W E k rb rm N B M) := fun W hb => h.below hb
  have HAT : Hid (∀ W, Below w.heap.size w W → Calls Tryd.prog 32 #[.pointer (some ⟨rb, 0, none⟩), .string (P.extract 0 i)] W fun e w' => e = .returned (.pointer (some ⟨B j, 0, none⟩)) ∧ Below W.heap.size W w') := hat
  have HLI : Hid (∀ W, Calls Tryd.prog 53 #[.string P, .string ⟨#[47]⟩] W fun e w' => e = .returned (.int .i64 (i : Int)) ∧ w' = W) := fun W => by
    have := last_any P hP W
    unfold lstI at this
    rwa [hl] at this
  have hi0 : (0 : Int) ≤ (i : Int) := by omega
  have hi1 : (i : Int) ≤ (P.size : Int) := by omega
  obtain ⟨t, htt⟩ : ∃ t, t = i + 1 := ⟨_, rfl⟩
  have HTT : Hid (t = i + 1) := htt
  have ht1 : (i : Int) + 1 = (t : Int) := by omega
  have ht2 : IntKind.i64.wrap ((i : Int) + 1) = (t : Int) := by rw [IntKind.wrap_i64]; omega
  have ht3 : IntKind.i64.wrap (t : Int) = (t : Int) := by rw [IntKind.wrap_i64]; omega
  have ht4 : (t : Int) ≤ (P.size : Int) := by omega
  have ht5 : (0 : Int) ≤ (t : Int) := by omega
  have hnm : ∀ W : World, (binOp .eql 58 (.map none) (.map none)).run Tryd.prog W = .ok (.bool true) W := fun _ => rfl
  clear h hat hl hz htt
  go_enter Tryd.func43, Tryd.ntmps43
  go_wp2_with (go_at_call 53; refine (HLI.out _).mono ?_; rintro e w1 ⟨rfl, hw1⟩; obtain rfl := hw1.symm; clear hw1)
  go_region_held3 (fun _ => True)
    (trivial)
    (((go_at_call 32; refine (HAT.out _ (Below.refl _ _).drew).mono ?_; rintro e w2 ⟨rfl, hl2⟩; have hb2 : Below w.heap.size w w2 := (Below.refl w.heap.size w).drew.trans (hl2.mono (Nat.le_refl _)))))
  have c1 := (HBR.out w2 hb2).leaf j hj hk
  go_wp2_with fail
  go_ret
  exact ⟨rfl, hb2⟩

set_option maxHeartbeats 4000000 in
set_option maxRecDepth 100000 in
theorem hold_none {w : World} {rb : Nat} (P : ByteArray) (hP : P.size ≤ 1048576) (i : Nat) (hl : lst P.data.toList = some i) (nb : Nat)
    (hat : ∀ W, Below w.heap.size w W → Calls Tryd.prog 32 #[.pointer (some ⟨rb, 0, none⟩), .string (P.extract 0 i)] W fun e w' => e = .returned (.pointer none) ∧ Below W.heap.size W w') :
    Calls Tryd.prog 43 #[.pointer (some ⟨rb, 0, none⟩), .string P, .pointer (some ⟨nb, 0, none⟩)] w fun e w' => e = .returned (.bool false) ∧ Below w.heap.size w w' := by
  have hz : P.data.toList.length = P.size := by simp
  have hi : i < P.size := by have := (List.getElem?_eq_some_iff.1 (lst_some hl).1).1; omega
  have HAT : Hid (∀ W, Below w.heap.size w W → Calls Tryd.prog 32 #[.pointer (some ⟨rb, 0, none⟩), .string (P.extract 0 i)] W fun e w' => e = .returned (.pointer none) ∧ Below W.heap.size W w') := hat
  have HLI : Hid (∀ W, Calls Tryd.prog 53 #[.string P, .string ⟨#[47]⟩] W fun e w' => e = .returned (.int .i64 (i : Int)) ∧ w' = W) := fun W => by
    have := last_any P hP W
    unfold lstI at this
    rwa [hl] at this
  have hi0 : (0 : Int) ≤ (i : Int) := by omega
  have hi1 : (i : Int) ≤ (P.size : Int) := by omega
  obtain ⟨t, htt⟩ : ∃ t, t = i + 1 := ⟨_, rfl⟩
  have HTT : Hid (t = i + 1) := htt
  have ht1 : (i : Int) + 1 = (t : Int) := by omega
  have ht2 : IntKind.i64.wrap ((i : Int) + 1) = (t : Int) := by rw [IntKind.wrap_i64]; omega
  have ht3 : IntKind.i64.wrap (t : Int) = (t : Int) := by rw [IntKind.wrap_i64]; omega
  have ht4 : (t : Int) ≤ (P.size : Int) := by omega
  have ht5 : (0 : Int) ≤ (t : Int) := by omega
  clear hat hl hz htt
  go_enter Tryd.func43, Tryd.ntmps43
  go_wp2_with (go_at_call 53; refine (HLI.out _).mono ?_; rintro e w1 ⟨rfl, hw1⟩; obtain rfl := hw1.symm; clear hw1)
  go_region_held3 (fun _ => True)
    (trivial)
    (((go_at_call 32; refine (HAT.out _ (Below.refl _ _).drew).mono ?_; rintro e w2 ⟨rfl, hl2⟩; have hb2 : Below w.heap.size w w2 := (Below.refl w.heap.size w).drew.trans (hl2.mono (Nat.le_refl _)))))
  go_wp2_with fail
  go_ret
  exact ⟨rfl, hb2⟩

end Go.Proofs.YtjjndaiojilhiaaDoor.tt
