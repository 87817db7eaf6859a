import Derived.Test.YtaoimkjcaienbaaGreatDoorG04
import Derived.Deep.RegionHeld3
namespace Go.Proofs.YtaoimkjcaienbaaGreatDoor.tt
open Go.ChangeShapes Go.WideShapes Go.ChangeAt Go.RowKit Go.Deep
set_option linter.unusedVariables false
set_option linter.unusedSimpArgs false

theorem Asc.mono {E : Nat → En} {n m : Nat} (h : Asc E n) (hm : m ≤ n) : Asc E m := fun i j hij hj => h i j hij (by omega)

set_option maxHeartbeats 8000000 in
set_option maxRecDepth 100000 in
theorem stree_any (E : Nat → En) (b o n cap : Nat) (w : World) (hR : EnR w b o n E) (hS : SmE n E) (hn : n ≤ 1048576) (hcap : n ≤ cap) (hcm : cap ≤ maxLen) :
    Calls Tryz.prog 9 #[.slice (some ⟨b, o, none⟩) n cap] w fun e w' => e = .returned (.bool (treeB E n)) ∧ Below w.heap.size w w' := by
  unfold maxLen at hcm
  by_cases h5 : 500 < n
  · have h5' : (500 : Int) < (n : Int) := by omega
    have HF : Hid (¬ (n ≤ 500 ∧ Tr E n)) := fun h => by omega
    clear hR hS
    go_enter Tryz.func9, Tryz.ntmps9
    go_wp2
    go_ret
    exact ⟨by rw [treeB_no HF.out]; first | done | rfl, Below.refl _ _⟩
  have h5' : ¬ (500 : Int) < (n : Int) := by omega
  have HER : Hid (EnR w b o n E) := hR
  have HSM : Hid (SmE n E) := hS
  clear hR hS
  go_enter Tryz.func9, Tryz.ntmps9
  go_wp2
  go_loopw [3] (fun x wr => ∃ i : Nat, i ≤ n ∧ x = .int .i64 (i : Int) ∧ Tr E i ∧ Below w.heap.size w wr) (fun x _ => n - (intOf x).toNat)
  case atStart => exact ⟨0, Nat.zero_le _, rfl, Tr.zero E, Below.refl _ _⟩
  case round =>
    obtain ⟨i, hi, rfl, htr, hbel⟩ := hrel
    have HTR : Hid (Tr E i) := htr
    have HBE : Hid (Below w.heap.size w wr) := hbel
    clear htr
    by_cases hil : i < n
    · have hil' : (i : Int) < (n : Int) := by omega
      have hi0 : (0 : Int) ≤ (i : Int) := by omega
      have hic : (i : Int) ≤ (cap : Int) := by omega
      have hsm := HSM.out i hil
      obtain ⟨P, hP⟩ : ∃ P, (E i).path = P := ⟨_, rfl⟩
      obtain ⟨k, hk⟩ : ∃ k, (E i).kind = k := ⟨_, rfl⟩
      obtain ⟨d, hd⟩ : ∃ d, (E i).data = d := ⟨_, rfl⟩
      obtain ⟨x, hx⟩ : ∃ x, (E i).exec = x := ⟨_, rfl⟩
      have HCI : Hid (∀ w' : World, Below w.heap.size w w' → w'.cell? ⟨b, o + i * 4, none⟩ = some (.string P) ∧ w'.cell? ⟨b, o + i * 4 + 1, none⟩ = some (.int .i64 k) ∧ w'.cell? ⟨b, o + i * 4 + 2, none⟩ = some (.string d) ∧ w'.cell? ⟨b, o + i * 4 + 3, none⟩ = some (.bool x)) := fun w' hb => by
        obtain ⟨q0, q1, q2, q3⟩ := (HER.out i hil).below hb
        rw [hP] at q0
        rw [hk] at q1
        rw [hd] at q2
        rw [hx] at q3
        exact ⟨q0, q1, q2, q3⟩
      have hpi : pth E i = P.data.toList := by unfold pth; rw [hP]
      have HPI : Hid (pth E i = P.data.toList) := hpi
      have HEN : Hid (∀ W, Calls Tryz.prog 38 #[.agg #[.string P, .int .i64 k, .string d, .bool x]] W fun r w' => r = .returned (.bool (eOk (E i))) ∧ Below W.heap.size W w') := fun W => by
        have := entry_any (E i) hsm.1 hsm.2 W
        unfold eV at this
        rwa [hP, hk, hd, hx] at this
      obtain ⟨U, hU⟩ : ∃ U : ByteArray, (⟨(up P.data.toList).toArray⟩ : ByteArray) = U := ⟨_, rfl⟩
      have HUP : Hid (∀ W, Calls Tryz.prog 39 #[.string P] W fun e w' => e = .returned (.string U) ∧ Below W.heap.size W w') := fun W => by
        have := up_any P (by rw [← hP]; exact hsm.1) W
        rwa [hU] at this
      have hUl : U.data.toList = up (pth E i) := by rw [← hU, hpi]
      have HUE : Hid (U.toList.isEmpty = true ↔ up (pth E i) = []) := by
        show _ ↔ _
        rw [ByteArray.toList_eq, hUl]
        simp
      have HDR : Hid (∀ W, Below w.heap.size w W → Calls Tryz.prog 40 #[.slice (some ⟨b, o, none⟩) i cap, .string U] W fun e w' => e = .returned (.bool (dirB E i (up (pth E i)))) ∧ Below W.heap.size W w') := fun W hb => by
        have := dir_any E b o i cap U W (fun j hj => (HER.out j (by omega)).below hb) HTR.out.asc (by omega) (by omega)
        rwa [hUl] at this
      obtain ⟨c0, c1, c2, c3⟩ := HCI.out wr hbel
      clear hbel hP hk hd hx hpi hU hUl hsm
      cases heo : eOk (E i) with
      | false =>
        rw [heo] at HEN
        have HF : Hid (¬ Tr E n) := fun h => by have := h.1 i hil; rw [heo] at this; cases this
        clear heo
        go_wp2_with fail
        refine wp_region_held_drew (S := fun w' => w'.cell? ⟨b, o + i * 4, none⟩ = some (.string P) ∧ w'.cell? ⟨b, o + i * 4 + 1, none⟩ = some (.int .i64 k) ∧ w'.cell? ⟨b, o + i * 4 + 2, none⟩ = some (.string d) ∧ w'.cell? ⟨b, o + i * 4 + 3, none⟩ = some (.bool x)) (by kernel_rfl) (HCI.out _ (HBE.out.drew)) (fun hHeld => ?_)
        refine wpAnyH_take (i := 0) (oi := ⟨some 14, .move (.tmp 0), 24, "l10_tree.go:72", #[], none⟩) (v := ?v1) rfl (by kernel_rfl) (by kernel_rfl) (by kernel_rfl) (fun _ _ _ h => h) (Or.inl ⟨by rfl, ?hy1⟩) (by assumption) ?r1
        case hy1 => (intro w hSw; (try dsimp only at hSw); go_simp; try with_reducible rfl)
        try simp only [Act.put, List.setIfInBounds_toArray, List.set_cons_zero, List.set_cons_succ]
        refine wpAnyH_take (i := 1) (oi := ⟨some 15, .move (.tmp 3), 3, "l10_tree.go:72", #[], none⟩) (v := ?v2) rfl (by kernel_rfl) (by kernel_rfl) (by kernel_rfl) (fun _ _ _ h => h) (Or.inl ⟨by rfl, ?hy2⟩) (by assumption) ?r2
        case hy2 => (intro w hSw; (try dsimp only at hSw); go_simp; try with_reducible rfl)
        try simp only [Act.put, List.setIfInBounds_toArray, List.set_cons_zero, List.set_cons_succ]
        refine wpAnyH_take (i := 2) (oi := ⟨some 16, .indexAddr 24 (.tmp 14) (.tmp 15), 0, "l10_tree.go:72", #[⟨0, .data⟩, ⟨1, .data⟩], none⟩) (v := ?v3) rfl (by kernel_rfl) (by kernel_rfl) (by kernel_rfl) (fun _ _ _ h => h) (Or.inl ⟨by rfl, ?hy3⟩) (by assumption) ?r3
        case hy3 => (intro w hSw; (try dsimp only at hSw); go_simp; try with_reducible rfl)
        try simp only [Act.put, List.setIfInBounds_toArray, List.set_cons_zero, List.set_cons_succ]
        refine wpAnyH_take (i := 3) (oi := ⟨some 17, .load 29 (.tmp 16), 29, "l10_tree.go:72", #[⟨2, .data⟩], none⟩) (v := ?v4) rfl (by kernel_rfl) (by kernel_rfl) (by kernel_rfl) (fun _ _ _ h => h) (Or.inl ⟨by rfl, ?hy4⟩) (by assumption) ?r4
        case hy4 => (intro w hSw; (try dsimp only at hSw); go_simp; try with_reducible rfl)
        try simp only [Act.put, List.setIfInBounds_toArray, List.set_cons_zero, List.set_cons_succ]
        refine wpAnyH_ready (rs := [4]) (by kernel_rfl) (by simp) ?_
        refine AllReadyH.cons (o := ⟨some 18, .call { callee := .value (.func 38), args := #[.tmp 17], argTypes := #[29] }, 4, "l10_tree.go:72", #[⟨3, .data⟩], none⟩) rfl (fun K hK => ?_) AllReadyH.nil
        go_simp
        (go_at_call 38; refine (HEN.out _).mono ?_; rintro e w2 ⟨rfl, hl2⟩; have hb2 : Below w.heap.size w w2 := HBE.out.drew.trans (hl2.mono HBE.out.size))
        try go_wp2_with fail
        refine hK.out _ _ (HCI.out _ (hb2)) (fun hHeld => ?_)
        clear hK K
        try simp only [Act.put, List.setIfInBounds_toArray, List.set_cons_zero, List.set_cons_succ]
        refine wpAnyH_take (i := 5) (oi := ⟨some 19, .unOp .not 4 (.tmp 18), 4, "l10_tree.go:72", #[⟨4, .data⟩], none⟩) (v := ?v5) rfl (by kernel_rfl) (by kernel_rfl) (by kernel_rfl) (fun _ _ _ h => h) (Or.inl ⟨by rfl, ?hy5⟩) (by assumption) ?r5
        case hy5 => (intro w hSw; (try dsimp only at hSw); go_simp; try with_reducible rfl)
        try simp only [Act.put, List.setIfInBounds_toArray, List.set_cons_zero, List.set_cons_succ]
        refine wpAnyH_take (i := 6) (oi := ⟨some 20, .move (.tmp 19), 4, "l10_tree.go:72", #[⟨5, .data⟩, ⟨4, .chain⟩], none⟩) (v := ?v6) rfl (by kernel_rfl) (by kernel_rfl) (by kernel_rfl) (fun _ _ _ h => h) (Or.inl ⟨by rfl, ?hy6⟩) (by assumption) ?r6
        case hy6 => (intro w hSw; (try dsimp only at hSw); go_simp; try with_reducible rfl)
        try simp only [Act.put, List.setIfInBounds_toArray, List.set_cons_zero, List.set_cons_succ]
        refine wpAnyH_take (i := 7) (oi := ⟨some 21, .move (.tmp 3), 3, "l10_tree.go:72", #[⟨6, .guard⟩], some (6, false)⟩) (v := undef) rfl (by kernel_rfl) (by kernel_rfl) (by kernel_rfl) (fun _ _ _ h => h) (Or.inr ⟨by rfl, rfl⟩) (by assumption) ?_
        try simp only [Act.put, List.setIfInBounds_toArray, List.set_cons_zero, List.set_cons_succ]
        refine wpAnyH_take (i := 8) (oi := ⟨some 22, .binOp .gtr 3 (.tmp 21) (.const (.int .i64 0)) 3, 4, "l10_tree.go:72", #[⟨7, .data⟩, ⟨6, .guard⟩], some (6, false)⟩) (v := undef) rfl (by kernel_rfl) (by kernel_rfl) (by kernel_rfl) (fun _ _ _ h => h) (Or.inr ⟨by rfl, rfl⟩) (by assumption) ?_
        try simp only [Act.put, List.setIfInBounds_toArray, List.set_cons_zero, List.set_cons_succ]
        refine wpAnyH_take (i := 9) (oi := ⟨some 23, .move (.tmp 22), 4, "l10_tree.go:72", #[⟨8, .data⟩, ⟨6, .chain⟩, ⟨6, .guard⟩], some (6, false)⟩) (v := undef) rfl (by kernel_rfl) (by kernel_rfl) (by kernel_rfl) (fun _ _ _ h => h) (Or.inr ⟨by rfl, rfl⟩) (by assumption) ?_
        try simp only [Act.put, List.setIfInBounds_toArray, List.set_cons_zero, List.set_cons_succ]
        refine wpAnyH_take (i := 10) (oi := ⟨some 24, .move (.tmp 0), 24, "l10_tree.go:72", #[⟨9, .guard⟩], some (9, true)⟩) (v := undef) rfl (by kernel_rfl) (by kernel_rfl) (by kernel_rfl) (fun _ _ _ h => h) (Or.inr ⟨by rfl, rfl⟩) (by assumption) ?_
        try simp only [Act.put, List.setIfInBounds_toArray, List.set_cons_zero, List.set_cons_succ]
        refine wpAnyH_take (i := 11) (oi := ⟨some 25, .move (.tmp 3), 3, "l10_tree.go:72", #[⟨9, .guard⟩], some (9, true)⟩) (v := undef) rfl (by kernel_rfl) (by kernel_rfl) (by kernel_rfl) (fun _ _ _ h => h) (Or.inr ⟨by rfl, rfl⟩) (by assumption) ?_
        try simp only [Act.put, List.setIfInBounds_toArray, List.set_cons_zero, List.set_cons_succ]
        refine wpAnyH_take (i := 12) (oi := ⟨some 26, .binOp .sub 3 (.tmp 25) (.const (.int .i64 1)) 3, 3, "l10_tree.go:72", #[⟨11, .data⟩, ⟨9, .guard⟩], some (9, true)⟩) (v := undef) rfl (by kernel_rfl) (by kernel_rfl) (by kernel_rfl) (fun _ _ _ h => h) (Or.inr ⟨by rfl, rfl⟩) (by assumption) ?_
        try simp only [Act.put, List.setIfInBounds_toArray, List.set_cons_zero, List.set_cons_succ]
        refine wpAnyH_take (i := 13) (oi := ⟨some 27, .indexAddr 24 (.tmp 24) (.tmp 26), 0, "l10_tree.go:72", #[⟨10, .data⟩, ⟨12, .data⟩, ⟨9, .guard⟩], some (9, true)⟩) (v := undef) rfl (by kernel_rfl) (by kernel_rfl) (by kernel_rfl) (fun _ _ _ h => h) (Or.inr ⟨by rfl, rfl⟩) (by assumption) ?_
        try simp only [Act.put, List.setIfInBounds_toArray, List.set_cons_zero, List.set_cons_succ]
        refine wpAnyH_take (i := 14) (oi := ⟨some 28, .fieldAddr 29 (.tmp 27) 0, 0, "l10_tree.go:72", #[⟨13, .data⟩, ⟨9, .guard⟩], some (9, true)⟩) (v := undef) rfl (by kernel_rfl) (by kernel_rfl) (by kernel_rfl) (fun _ _ _ h => h) (Or.inr ⟨by rfl, rfl⟩) (by assumption) ?_
        try simp only [Act.put, List.setIfInBounds_toArray, List.set_cons_zero, List.set_cons_succ]
        refine wpAnyH_take (i := 15) (oi := ⟨some 29, .load 9 (.tmp 28), 9, "l10_tree.go:72", #[⟨14, .data⟩, ⟨9, .guard⟩], some (9, true)⟩) (v := undef) rfl (by kernel_rfl) (by kernel_rfl) (by kernel_rfl) (fun _ _ _ h => h) (Or.inr ⟨by rfl, rfl⟩) (by assumption) ?_
        try simp only [Act.put, List.setIfInBounds_toArray, List.set_cons_zero, List.set_cons_succ]
        refine wpAnyH_take (i := 16) (oi := ⟨some 30, .move (.tmp 0), 24, "l10_tree.go:72", #[⟨9, .guard⟩], some (9, true)⟩) (v := undef) rfl (by kernel_rfl) (by kernel_rfl) (by kernel_rfl) (fun _ _ _ h => h) (Or.inr ⟨by rfl, rfl⟩) (by assumption) ?_
        try simp only [Act.put, List.setIfInBounds_toArray, List.set_cons_zero, List.set_cons_succ]
        refine wpAnyH_take (i := 17) (oi := ⟨some 31, .move (.tmp 3), 3, "l10_tree.go:72", #[⟨9, .guard⟩], some (9, true)⟩) (v := undef) rfl (by kernel_rfl) (by kernel_rfl) (by kernel_rfl) (fun _ _ _ h => h) (Or.inr ⟨by rfl, rfl⟩) (by assumption) ?_
        try simp only [Act.put, List.setIfInBounds_toArray, List.set_cons_zero, List.set_cons_succ]
        refine wpAnyH_take (i := 18) (oi := ⟨some 32, .indexAddr 24 (.tmp 30) (.tmp 31), 0, "l10_tree.go:72", #[⟨16, .data⟩, ⟨17, .data⟩, ⟨9, .guard⟩], some (9, true)⟩) (v := undef) rfl (by kernel_rfl) (by kernel_rfl) (by kernel_rfl) (fun _ _ _ h => h) (Or.inr ⟨by rfl, rfl⟩) (by assumption) ?_
        try simp only [Act.put, List.setIfInBounds_toArray, List.set_cons_zero, List.set_cons_succ]
        refine wpAnyH_take (i := 19) (oi := ⟨some 33, .fieldAddr 29 (.tmp 32) 0, 0, "l10_tree.go:72", #[⟨18, .data⟩, ⟨9, .guard⟩], some (9, true)⟩) (v := undef) rfl (by kernel_rfl) (by kernel_rfl) (by kernel_rfl) (fun _ _ _ h => h) (Or.inr ⟨by rfl, rfl⟩) (by assumption) ?_
        try simp only [Act.put, List.setIfInBounds_toArray, List.set_cons_zero, List.set_cons_succ]
        refine wpAnyH_take (i := 20) (oi := ⟨some 34, .load 9 (.tmp 33), 9, "l10_tree.go:72", #[⟨19, .data⟩, ⟨9, .guard⟩], some (9, true)⟩) (v := undef) rfl (by kernel_rfl) (by kernel_rfl) (by kernel_rfl) (fun _ _ _ h => h) (Or.inr ⟨by rfl, rfl⟩) (by assumption) ?_
        try simp only [Act.put, List.setIfInBounds_toArray, List.set_cons_zero, List.set_cons_succ]
        refine wpAnyH_take (i := 21) (oi := ⟨some 35, .binOp .geq 9 (.tmp 29) (.tmp 34) 9, 4, "l10_tree.go:72", #[⟨15, .data⟩, ⟨20, .data⟩, ⟨9, .guard⟩], some (9, true)⟩) (v := undef) rfl (by kernel_rfl) (by kernel_rfl) (by kernel_rfl) (fun _ _ _ h => h) (Or.inr ⟨by rfl, rfl⟩) (by assumption) ?_
        try simp only [Act.put, List.setIfInBounds_toArray, List.set_cons_zero, List.set_cons_succ]
        refine wpAnyH_take (i := 22) (oi := ⟨some 36, .pick (.tmp 23) (.tmp 35) (.const (.bool false)), 4, "l10_tree.go:72", #[⟨9, .data⟩, ⟨21, .data⟩, ⟨6, .guard⟩], some (6, false)⟩) (v := undef) rfl (by kernel_rfl) (by kernel_rfl) (by kernel_rfl) (fun _ _ _ h => h) (Or.inr ⟨by rfl, rfl⟩) (by assumption) ?_
        try simp only [Act.put, List.setIfInBounds_toArray, List.set_cons_zero, List.set_cons_succ]
        refine wpAnyH_take (i := 23) (oi := ⟨some 37, .pick (.tmp 20) (.const (.bool true)) (.tmp 36), 4, "l10_tree.go:72", #[⟨6, .data⟩, ⟨22, .data⟩], none⟩) (v := ?v7) rfl (by kernel_rfl) (by kernel_rfl) (by kernel_rfl) (fun _ _ _ h => h) (Or.inl ⟨by rfl, ?hy7⟩) (by assumption) ?r7
        case hy7 => (intro w hSw; (try dsimp only at hSw); go_simp; try with_reducible rfl)
        try simp only [Act.put, List.setIfInBounds_toArray, List.set_cons_zero, List.set_cons_succ]
        refine wpAnyH_done (by kernel_rfl) ?_ _
        go_wp2_with fail
        go_ret
        exact ⟨by rw [treeB_no (fun h => HF.out h.2)]; first | done | rfl, hb2⟩
      | true =>
        rw [heo] at HEN
        have HEO : Hid (eOk (E i) = true) := heo
        clear heo
        by_cases hi1 : 0 < i
        · have hi1' : (0 : Int) < (i : Int) := by omega
          obtain ⟨K, hKk⟩ : ∃ K, i = K + 1 := ⟨i - 1, by omega⟩
          have HKk : Hid (i = K + 1) := hKk
          have hK1 : (i : Int) - 1 = (K : Int) := by omega
          have hK2 : (K : Int) < (n : Int) := by omega
          have hK0 : (0 : Int) ≤ (K : Int) := by omega
          have hK3 : IntKind.i64.wrap ((i : Int) - 1) = (K : Int) := by rw [IntKind.wrap_i64]; omega
          have hK4 : IntKind.i64.wrap (K : Int) = (K : Int) := by rw [IntKind.wrap_i64]; omega
          obtain ⟨M, hM⟩ : ∃ M, (E K).path = M := ⟨_, rfl⟩
          have HPK : Hid (pth E K = M.data.toList) := by show _ = _; unfold pth; rw [hM]
          have HCK : Hid (∀ w' : World, Below w.heap.size w w' → w'.cell? ⟨b, o + i * 4, none⟩ = some (.string P) ∧ w'.cell? ⟨b, o + i * 4 + 1, none⟩ = some (.int .i64 k) ∧ w'.cell? ⟨b, o + i * 4 + 2, none⟩ = some (.string d) ∧ w'.cell? ⟨b, o + i * 4 + 3, none⟩ = some (.bool x) ∧ w'.cell? ⟨b, o + K * 4, none⟩ = some (.string M)) := fun w' hb => by
            obtain ⟨q0, q1, q2, q3⟩ := HCI.out w' hb
            have q4 := ((HER.out K (by omega)).below hb).1
            rw [hM] at q4
            exact ⟨q0, q1, q2, q3, q4⟩
          clear hM hKk
          cases hbl : Op.bytesLess M.toList P.toList with
          | true =>
            have HLT : Hid (0 < i → pth E (i - 1) < pth E i) := fun _ => by
              rw [show i - 1 = K from by have := HKk.out; omega, HPK.out, HPI.out]
              have := bl M P
              rw [hbl] at this
              simpa using this.symm
            go_wp2_with fail
            refine wp_region_held_drew (S := fun w' => w'.cell? ⟨b, o + i * 4, none⟩ = some (.string P) ∧ w'.cell? ⟨b, o + i * 4 + 1, none⟩ = some (.int .i64 k) ∧ w'.cell? ⟨b, o + i * 4 + 2, none⟩ = some (.string d) ∧ w'.cell? ⟨b, o + i * 4 + 3, none⟩ = some (.bool x) ∧ w'.cell? ⟨b, o + K * 4, none⟩ = some (.string M)) (by kernel_rfl) (HCK.out _ (HBE.out.drew)) (fun hHeld => ?_)
            refine wpAnyH_take (i := 0) (oi := ⟨some 14, .move (.tmp 0), 24, "l10_tree.go:72", #[], none⟩) (v := ?v8) rfl (by kernel_rfl) (by kernel_rfl) (by kernel_rfl) (fun _ _ _ h => h) (Or.inl ⟨by rfl, ?hy8⟩) (by assumption) ?r8
            case hy8 => (intro w hSw; (try dsimp only at hSw); go_simp; try with_reducible rfl)
            try simp only [Act.put, List.setIfInBounds_toArray, List.set_cons_zero, List.set_cons_succ]
            refine wpAnyH_take (i := 1) (oi := ⟨some 15, .move (.tmp 3), 3, "l10_tree.go:72", #[], none⟩) (v := ?v9) rfl (by kernel_rfl) (by kernel_rfl) (by kernel_rfl) (fun _ _ _ h => h) (Or.inl ⟨by rfl, ?hy9⟩) (by assumption) ?r9
            case hy9 => (intro w hSw; (try dsimp only at hSw); go_simp; try with_reducible rfl)
            try simp only [Act.put, List.setIfInBounds_toArray, List.set_cons_zero, List.set_cons_succ]
            refine wpAnyH_take (i := 2) (oi := ⟨some 16, .indexAddr 24 (.tmp 14) (.tmp 15), 0, "l10_tree.go:72", #[⟨0, .data⟩, ⟨1, .data⟩], none⟩) (v := ?v10) rfl (by kernel_rfl) (by kernel_rfl) (by kernel_rfl) (fun _ _ _ h => h) (Or.inl ⟨by rfl, ?hy10⟩) (by assumption) ?r10
            case hy10 => (intro w hSw; (try dsimp only at hSw); go_simp; try with_reducible rfl)
            try simp only [Act.put, List.setIfInBounds_toArray, List.set_cons_zero, List.set_cons_succ]
            refine wpAnyH_take (i := 3) (oi := ⟨some 17, .load 29 (.tmp 16), 29, "l10_tree.go:72", #[⟨2, .data⟩], none⟩) (v := ?v11) rfl (by kernel_rfl) (by kernel_rfl) (by kernel_rfl) (fun _ _ _ h => h) (Or.inl ⟨by rfl, ?hy11⟩) (by assumption) ?r11
            case hy11 => (intro w hSw; (try dsimp only at hSw); go_simp; try with_reducible rfl)
            try simp only [Act.put, List.setIfInBounds_toArray, List.set_cons_zero, List.set_cons_succ]
            refine wpAnyH_ready (rs := [4]) (by kernel_rfl) (by simp) ?_
            refine AllReadyH.cons (o := ⟨some 18, .call { callee := .value (.func 38), args := #[.tmp 17], argTypes := #[29] }, 4, "l10_tree.go:72", #[⟨3, .data⟩], none⟩) rfl (fun K hK => ?_) AllReadyH.nil
            go_simp
            (go_at_call 38; refine (HEN.out _).mono ?_; rintro e w2 ⟨rfl, hl2⟩; have hb2 : Below w.heap.size w w2 := HBE.out.drew.trans (hl2.mono HBE.out.size))
            try go_wp2_with fail
            refine hK.out _ _ (HCK.out _ (hb2)) (fun hHeld => ?_)
            clear hK K
            try simp only [Act.put, List.setIfInBounds_toArray, List.set_cons_zero, List.set_cons_succ]
            refine wpAnyH_take (i := 5) (oi := ⟨some 19, .unOp .not 4 (.tmp 18), 4, "l10_tree.go:72", #[⟨4, .data⟩], none⟩) (v := ?v12) rfl (by kernel_rfl) (by kernel_rfl) (by kernel_rfl) (fun _ _ _ h => h) (Or.inl ⟨by rfl, ?hy12⟩) (by assumption) ?r12
            case hy12 => (intro w hSw; (try dsimp only at hSw); go_simp; try with_reducible rfl)
            try simp only [Act.put, List.setIfInBounds_toArray, List.set_cons_zero, List.set_cons_succ]
            refine wpAnyH_take (i := 6) (oi := ⟨some 20, .move (.tmp 19), 4, "l10_tree.go:72", #[⟨5, .data⟩, ⟨4, .chain⟩], none⟩) (v := ?v13) rfl (by kernel_rfl) (by kernel_rfl) (by kernel_rfl) (fun _ _ _ h => h) (Or.inl ⟨by rfl, ?hy13⟩) (by assumption) ?r13
            case hy13 => (intro w hSw; (try dsimp only at hSw); go_simp; try with_reducible rfl)
            try simp only [Act.put, List.setIfInBounds_toArray, List.set_cons_zero, List.set_cons_succ]
            refine wpAnyH_take (i := 7) (oi := ⟨some 21, .move (.tmp 3), 3, "l10_tree.go:72", #[⟨6, .guard⟩], some (6, false)⟩) (v := ?v14) rfl (by kernel_rfl) (by kernel_rfl) (by kernel_rfl) (fun _ _ _ h => h) (Or.inl ⟨by rfl, ?hy14⟩) (by assumption) ?r14
            case hy14 => (intro w hSw; (try dsimp only at hSw); go_simp; try with_reducible rfl)
            try simp only [Act.put, List.setIfInBounds_toArray, List.set_cons_zero, List.set_cons_succ]
            refine wpAnyH_take (i := 8) (oi := ⟨some 22, .binOp .gtr 3 (.tmp 21) (.const (.int .i64 0)) 3, 4, "l10_tree.go:72", #[⟨7, .data⟩, ⟨6, .guard⟩], some (6, false)⟩) (v := ?v15) rfl (by kernel_rfl) (by kernel_rfl) (by kernel_rfl) (fun _ _ _ h => h) (Or.inl ⟨by rfl, ?hy15⟩) (by assumption) ?r15
            case hy15 => (intro w hSw; (try dsimp only at hSw); go_simp; try with_reducible rfl)
            try simp only [Act.put, List.setIfInBounds_toArray, List.set_cons_zero, List.set_cons_succ]
            refine wpAnyH_take (i := 9) (oi := ⟨some 23, .move (.tmp 22), 4, "l10_tree.go:72", #[⟨8, .data⟩, ⟨6, .chain⟩, ⟨6, .guard⟩], some (6, false)⟩) (v := ?v16) rfl (by kernel_rfl) (by kernel_rfl) (by kernel_rfl) (fun _ _ _ h => h) (Or.inl ⟨by rfl, ?hy16⟩) (by assumption) ?r16
            case hy16 => (intro w hSw; (try dsimp only at hSw); go_simp; try with_reducible rfl)
            try simp only [Act.put, List.setIfInBounds_toArray, List.set_cons_zero, List.set_cons_succ]
            refine wpAnyH_take (i := 10) (oi := ⟨some 24, .move (.tmp 0), 24, "l10_tree.go:72", #[⟨9, .guard⟩], some (9, true)⟩) (v := ?v17) rfl (by kernel_rfl) (by kernel_rfl) (by kernel_rfl) (fun _ _ _ h => h) (Or.inl ⟨by rfl, ?hy17⟩) (by assumption) ?r17
            case hy17 => (intro w hSw; (try dsimp only at hSw); go_simp; try with_reducible rfl)
            try simp only [Act.put, List.setIfInBounds_toArray, List.set_cons_zero, List.set_cons_succ]
            refine wpAnyH_take (i := 11) (oi := ⟨some 25, .move (.tmp 3), 3, "l10_tree.go:72", #[⟨9, .guard⟩], some (9, true)⟩) (v := ?v18) rfl (by kernel_rfl) (by kernel_rfl) (by kernel_rfl) (fun _ _ _ h => h) (Or.inl ⟨by rfl, ?hy18⟩) (by assumption) ?r18
            case hy18 => (intro w hSw; (try dsimp only at hSw); go_simp; try with_reducible rfl)
            try simp only [Act.put, List.setIfInBounds_toArray, List.set_cons_zero, List.set_cons_succ]
            refine wpAnyH_take (i := 12) (oi := ⟨some 26, .binOp .sub 3 (.tmp 25) (.const (.int .i64 1)) 3, 3, "l10_tree.go:72", #[⟨11, .data⟩, ⟨9, .guard⟩], some (9, true)⟩) (v := ?v19) rfl (by kernel_rfl) (by kernel_rfl) (by kernel_rfl) (fun _ _ _ h => h) (Or.inl ⟨by rfl, ?hy19⟩) (by assumption) ?r19
            case hy19 => (intro w hSw; (try dsimp only at hSw); go_simp; try with_reducible rfl)
            try simp only [Act.put, List.setIfInBounds_toArray, List.set_cons_zero, List.set_cons_succ]
            refine wpAnyH_take (i := 13) (oi := ⟨some 27, .indexAddr 24 (.tmp 24) (.tmp 26), 0, "l10_tree.go:72", #[⟨10, .data⟩, ⟨12, .data⟩, ⟨9, .guard⟩], some (9, true)⟩) (v := ?v20) rfl (by kernel_rfl) (by kernel_rfl) (by kernel_rfl) (fun _ _ _ h => h) (Or.inl ⟨by rfl, ?hy20⟩) (by assumption) ?r20
            case hy20 => (intro w hSw; (try dsimp only at hSw); go_simp; try with_reducible rfl)
            try simp only [Act.put, List.setIfInBounds_toArray, List.set_cons_zero, List.set_cons_succ]
            refine wpAnyH_take (i := 14) (oi := ⟨some 28, .fieldAddr 29 (.tmp 27) 0, 0, "l10_tree.go:72", #[⟨13, .data⟩, ⟨9, .guard⟩], some (9, true)⟩) (v := ?v21) rfl (by kernel_rfl) (by kernel_rfl) (by kernel_rfl) (fun _ _ _ h => h) (Or.inl ⟨by rfl, ?hy21⟩) (by assumption) ?r21
            case hy21 => (intro w hSw; (try dsimp only at hSw); go_simp; try with_reducible rfl)
            try simp only [Act.put, List.setIfInBounds_toArray, List.set_cons_zero, List.set_cons_succ]
            refine wpAnyH_take (i := 15) (oi := ⟨some 29, .load 9 (.tmp 28), 9, "l10_tree.go:72", #[⟨14, .data⟩, ⟨9, .guard⟩], some (9, true)⟩) (v := ?v22) rfl (by kernel_rfl) (by kernel_rfl) (by kernel_rfl) (fun _ _ _ h => h) (Or.inl ⟨by rfl, ?hy22⟩) (by assumption) ?r22
            case hy22 => (intro w hSw; (try dsimp only at hSw); go_simp; try with_reducible rfl)
            try simp only [Act.put, List.setIfInBounds_toArray, List.set_cons_zero, List.set_cons_succ]
            refine wpAnyH_take (i := 16) (oi := ⟨some 30, .move (.tmp 0), 24, "l10_tree.go:72", #[⟨9, .guard⟩], some (9, true)⟩) (v := ?v23) rfl (by kernel_rfl) (by kernel_rfl) (by kernel_rfl) (fun _ _ _ h => h) (Or.inl ⟨by rfl, ?hy23⟩) (by assumption) ?r23
            case hy23 => (intro w hSw; (try dsimp only at hSw); go_simp; try with_reducible rfl)
            try simp only [Act.put, List.setIfInBounds_toArray, List.set_cons_zero, List.set_cons_succ]
            refine wpAnyH_take (i := 17) (oi := ⟨some 31, .move (.tmp 3), 3, "l10_tree.go:72", #[⟨9, .guard⟩], some (9, true)⟩) (v := ?v24) rfl (by kernel_rfl) (by kernel_rfl) (by kernel_rfl) (fun _ _ _ h => h) (Or.inl ⟨by rfl, ?hy24⟩) (by assumption) ?r24
            case hy24 => (intro w hSw; (try dsimp only at hSw); go_simp; try with_reducible rfl)
            try simp only [Act.put, List.setIfInBounds_toArray, List.set_cons_zero, List.set_cons_succ]
            refine wpAnyH_take (i := 18) (oi := ⟨some 32, .indexAddr 24 (.tmp 30) (.tmp 31), 0, "l10_tree.go:72", #[⟨16, .data⟩, ⟨17, .data⟩, ⟨9, .guard⟩], some (9, true)⟩) (v := ?v25) rfl (by kernel_rfl) (by kernel_rfl) (by kernel_rfl) (fun _ _ _ h => h) (Or.inl ⟨by rfl, ?hy25⟩) (by assumption) ?r25
            case hy25 => (intro w hSw; (try dsimp only at hSw); go_simp; try with_reducible rfl)
            try simp only [Act.put, List.setIfInBounds_toArray, List.set_cons_zero, List.set_cons_succ]
            refine wpAnyH_take (i := 19) (oi := ⟨some 33, .fieldAddr 29 (.tmp 32) 0, 0, "l10_tree.go:72", #[⟨18, .data⟩, ⟨9, .guard⟩], some (9, true)⟩) (v := ?v26) rfl (by kernel_rfl) (by kernel_rfl) (by kernel_rfl) (fun _ _ _ h => h) (Or.inl ⟨by rfl, ?hy26⟩) (by assumption) ?r26
            case hy26 => (intro w hSw; (try dsimp only at hSw); go_simp; try with_reducible rfl)
            try simp only [Act.put, List.setIfInBounds_toArray, List.set_cons_zero, List.set_cons_succ]
            refine wpAnyH_take (i := 20) (oi := ⟨some 34, .load 9 (.tmp 33), 9, "l10_tree.go:72", #[⟨19, .data⟩, ⟨9, .guard⟩], some (9, true)⟩) (v := ?v27) rfl (by kernel_rfl) (by kernel_rfl) (by kernel_rfl) (fun _ _ _ h => h) (Or.inl ⟨by rfl, ?hy27⟩) (by assumption) ?r27
            case hy27 => (intro w hSw; (try dsimp only at hSw); go_simp; try with_reducible rfl)
            try simp only [Act.put, List.setIfInBounds_toArray, List.set_cons_zero, List.set_cons_succ]
            refine wpAnyH_take (i := 21) (oi := ⟨some 35, .binOp .geq 9 (.tmp 29) (.tmp 34) 9, 4, "l10_tree.go:72", #[⟨15, .data⟩, ⟨20, .data⟩, ⟨9, .guard⟩], some (9, true)⟩) (v := ?v28) rfl (by kernel_rfl) (by kernel_rfl) (by kernel_rfl) (fun _ _ _ h => h) (Or.inl ⟨by rfl, ?hy28⟩) (by assumption) ?r28
            case hy28 => (intro w hSw; (try dsimp only at hSw); go_simp; try with_reducible rfl)
            try simp only [Act.put, List.setIfInBounds_toArray, List.set_cons_zero, List.set_cons_succ]
            refine wpAnyH_take (i := 22) (oi := ⟨some 36, .pick (.tmp 23) (.tmp 35) (.const (.bool false)), 4, "l10_tree.go:72", #[⟨9, .data⟩, ⟨21, .data⟩, ⟨6, .guard⟩], some (6, false)⟩) (v := ?v29) rfl (by kernel_rfl) (by kernel_rfl) (by kernel_rfl) (fun _ _ _ h => h) (Or.inl ⟨by rfl, ?hy29⟩) (by assumption) ?r29
            case hy29 => (intro w hSw; (try dsimp only at hSw); go_simp; try with_reducible rfl)
            try simp only [Act.put, List.setIfInBounds_toArray, List.set_cons_zero, List.set_cons_succ]
            refine wpAnyH_take (i := 23) (oi := ⟨some 37, .pick (.tmp 20) (.const (.bool true)) (.tmp 36), 4, "l10_tree.go:72", #[⟨6, .data⟩, ⟨22, .data⟩], none⟩) (v := ?v30) rfl (by kernel_rfl) (by kernel_rfl) (by kernel_rfl) (fun _ _ _ h => h) (Or.inl ⟨by rfl, ?hy30⟩) (by assumption) ?r30
            case hy30 => (intro w hSw; (try dsimp only at hSw); go_simp; try with_reducible rfl)
            try simp only [Act.put, List.setIfInBounds_toArray, List.set_cons_zero, List.set_cons_succ]
            refine wpAnyH_done (by kernel_rfl) ?_ _
            obtain ⟨z0, -, -, -⟩ := HCI.out _ hb2
            go_wp2_with (go_at_call 39; refine (HUP.out _).mono ?_; rintro e w3 ⟨rfl, hl3⟩; have hb3 : Below w.heap.size w w3 := hb2.trans (hl3.mono hb2.size); refine Hid.out ?_)
            refine Lib.hid ?_
            cases hue : U.toList.isEmpty with
            | true =>
              have HN : Hid (Tr E (i + 1)) := HTR.out.next HEO.out HLT.out (fun h => absurd (HUE.out.1 hue) h)
              go_wp2
              go_roundw
              case rel => exact ⟨i + 1, by omega, by go_num, HN.out, hb3⟩
              case measure => simp [intOf] <;> omega
            | false =>
              have HNE : Hid (up (pth E i) ≠ []) := fun h => by have := HUE.out.2 h; rw [hue] at this; cases this
              have HDI : Hid (Calls Tryz.prog 40 #[.slice (some ⟨b, o, none⟩) i cap, .string U] w3 fun e w' => e = .returned (.bool (dirB E i (up (pth E i)))) ∧ Below w3.heap.size w3 w') := HDR.out w3 hb3
              cases hdb : dirB E i (up (pth E i)) with
              | false =>
                rw [hdb] at HDI
                have HF : Hid (¬ Tr E n) := fun h => by
                  rw [dirB_yes (h.2.2 i hil HNE.out)] at hdb
                  cases hdb
                clear hdb
                go_wp2_with (go_at_call 40; refine HDI.out.mono ?_; rintro e w4 ⟨rfl, hl4⟩; have hb4 : Below w.heap.size w w4 := hb3.trans (hl4.mono hb3.size))
                go_ret
                exact ⟨by rw [treeB_no (fun h => HF.out h.2)]; first | done | rfl, hb4⟩
              | true =>
                rw [hdb] at HDI
                have HN : Hid (Tr E (i + 1)) := HTR.out.next HEO.out HLT.out (fun _ => dirB_iff.1 hdb)
                clear hdb
                go_wp2_with (go_at_call 40; refine HDI.out.mono ?_; rintro e w4 ⟨rfl, hl4⟩; have hb4 : Below w.heap.size w w4 := hb3.trans (hl4.mono hb3.size))
                go_roundw
                case rel => exact ⟨i + 1, by omega, by go_num, HN.out, hb4⟩
                case measure => simp [intOf] <;> omega
          | false =>
            have HF : Hid (¬ Tr E n) := fun h => by
              have h2 := h.2.1 K (by have := HKk.out; omega)
              rw [show K + 1 = i from HKk.out.symm, HPK.out, HPI.out] at h2
              have := bl M P
              rw [hbl] at this
              simp at this
              exact absurd h2 (List.not_lt.2 this)
            go_wp2_with fail
            refine wp_region_held_drew (S := fun w' => w'.cell? ⟨b, o + i * 4, none⟩ = some (.string P) ∧ w'.cell? ⟨b, o + i * 4 + 1, none⟩ = some (.int .i64 k) ∧ w'.cell? ⟨b, o + i * 4 + 2, none⟩ = some (.string d) ∧ w'.cell? ⟨b, o + i * 4 + 3, none⟩ = some (.bool x) ∧ w'.cell? ⟨b, o + K * 4, none⟩ = some (.string M)) (by kernel_rfl) (HCK.out _ (HBE.out.drew)) (fun hHeld => ?_)
            refine wpAnyH_take (i := 0) (oi := ⟨some 14, .move (.tmp 0), 24, "l10_tree.go:72", #[], none⟩) (v := ?v31) rfl (by kernel_rfl) (by kernel_rfl) (by kernel_rfl) (fun _ _ _ h => h) (Or.inl ⟨by rfl, ?hy31⟩) (by assumption) ?r31
            case hy31 => (intro w hSw; (try dsimp only at hSw); go_simp; try with_reducible rfl)
            try simp only [Act.put, List.setIfInBounds_toArray, List.set_cons_zero, List.set_cons_succ]
            refine wpAnyH_take (i := 1) (oi := ⟨some 15, .move (.tmp 3), 3, "l10_tree.go:72", #[], none⟩) (v := ?v32) rfl (by kernel_rfl) (by kernel_rfl) (by kernel_rfl) (fun _ _ _ h => h) (Or.inl ⟨by rfl, ?hy32⟩) (by assumption) ?r32
            case hy32 => (intro w hSw; (try dsimp only at hSw); go_simp; try with_reducible rfl)
            try simp only [Act.put, List.setIfInBounds_toArray, List.set_cons_zero, List.set_cons_succ]
            refine wpAnyH_take (i := 2) (oi := ⟨some 16, .indexAddr 24 (.tmp 14) (.tmp 15), 0, "l10_tree.go:72", #[⟨0, .data⟩, ⟨1, .data⟩], none⟩) (v := ?v33) rfl (by kernel_rfl) (by kernel_rfl) (by kernel_rfl) (fun _ _ _ h => h) (Or.inl ⟨by rfl, ?hy33⟩) (by assumption) ?r33
            case hy33 => (intro w hSw; (try dsimp only at hSw); go_simp; try with_reducible rfl)
            try simp only [Act.put, List.setIfInBounds_toArray, List.set_cons_zero, List.set_cons_succ]
            refine wpAnyH_take (i := 3) (oi := ⟨some 17, .load 29 (.tmp 16), 29, "l10_tree.go:72", #[⟨2, .data⟩], none⟩) (v := ?v34) rfl (by kernel_rfl) (by kernel_rfl) (by kernel_rfl) (fun _ _ _ h => h) (Or.inl ⟨by rfl, ?hy34⟩) (by assumption) ?r34
            case hy34 => (intro w hSw; (try dsimp only at hSw); go_simp; try with_reducible rfl)
            try simp only [Act.put, List.setIfInBounds_toArray, List.set_cons_zero, List.set_cons_succ]
            refine wpAnyH_ready (rs := [4]) (by kernel_rfl) (by simp) ?_
            refine AllReadyH.cons (o := ⟨some 18, .call { callee := .value (.func 38), args := #[.tmp 17], argTypes := #[29] }, 4, "l10_tree.go:72", #[⟨3, .data⟩], none⟩) rfl (fun K hK => ?_) AllReadyH.nil
            go_simp
            (go_at_call 38; refine (HEN.out _).mono ?_; rintro e w2 ⟨rfl, hl2⟩; have hb2 : Below w.heap.size w w2 := HBE.out.drew.trans (hl2.mono HBE.out.size))
            try go_wp2_with fail
            refine hK.out _ _ (HCK.out _ (hb2)) (fun hHeld => ?_)
            clear hK K
            try simp only [Act.put, List.setIfInBounds_toArray, List.set_cons_zero, List.set_cons_succ]
            refine wpAnyH_take (i := 5) (oi := ⟨some 19, .unOp .not 4 (.tmp 18), 4, "l10_tree.go:72", #[⟨4, .data⟩], none⟩) (v := ?v35) rfl (by kernel_rfl) (by kernel_rfl) (by kernel_rfl) (fun _ _ _ h => h) (Or.inl ⟨by rfl, ?hy35⟩) (by assumption) ?r35
            case hy35 => (intro w hSw; (try dsimp only at hSw); go_simp; try with_reducible rfl)
            try simp only [Act.put, List.setIfInBounds_toArray, List.set_cons_zero, List.set_cons_succ]
            refine wpAnyH_take (i := 6) (oi := ⟨some 20, .move (.tmp 19), 4, "l10_tree.go:72", #[⟨5, .data⟩, ⟨4, .chain⟩], none⟩) (v := ?v36) rfl (by kernel_rfl) (by kernel_rfl) (by kernel_rfl) (fun _ _ _ h => h) (Or.inl ⟨by rfl, ?hy36⟩) (by assumption) ?r36
            case hy36 => (intro w hSw; (try dsimp only at hSw); go_simp; try with_reducible rfl)
            try simp only [Act.put, List.setIfInBounds_toArray, List.set_cons_zero, List.set_cons_succ]
            refine wpAnyH_take (i := 7) (oi := ⟨some 21, .move (.tmp 3), 3, "l10_tree.go:72", #[⟨6, .guard⟩], some (6, false)⟩) (v := ?v37) rfl (by kernel_rfl) (by kernel_rfl) (by kernel_rfl) (fun _ _ _ h => h) (Or.inl ⟨by rfl, ?hy37⟩) (by assumption) ?r37
            case hy37 => (intro w hSw; (try dsimp only at hSw); go_simp; try with_reducible rfl)
            try simp only [Act.put, List.setIfInBounds_toArray, List.set_cons_zero, List.set_cons_succ]
            refine wpAnyH_take (i := 8) (oi := ⟨some 22, .binOp .gtr 3 (.tmp 21) (.const (.int .i64 0)) 3, 4, "l10_tree.go:72", #[⟨7, .data⟩, ⟨6, .guard⟩], some (6, false)⟩) (v := ?v38) rfl (by kernel_rfl) (by kernel_rfl) (by kernel_rfl) (fun _ _ _ h => h) (Or.inl ⟨by rfl, ?hy38⟩) (by assumption) ?r38
            case hy38 => (intro w hSw; (try dsimp only at hSw); go_simp; try with_reducible rfl)
            try simp only [Act.put, List.setIfInBounds_toArray, List.set_cons_zero, List.set_cons_succ]
            refine wpAnyH_take (i := 9) (oi := ⟨some 23, .move (.tmp 22), 4, "l10_tree.go:72", #[⟨8, .data⟩, ⟨6, .chain⟩, ⟨6, .guard⟩], some (6, false)⟩) (v := ?v39) rfl (by kernel_rfl) (by kernel_rfl) (by kernel_rfl) (fun _ _ _ h => h) (Or.inl ⟨by rfl, ?hy39⟩) (by assumption) ?r39
            case hy39 => (intro w hSw; (try dsimp only at hSw); go_simp; try with_reducible rfl)
            try simp only [Act.put, List.setIfInBounds_toArray, List.set_cons_zero, List.set_cons_succ]
            refine wpAnyH_take (i := 10) (oi := ⟨some 24, .move (.tmp 0), 24, "l10_tree.go:72", #[⟨9, .guard⟩], some (9, true)⟩) (v := ?v40) rfl (by kernel_rfl) (by kernel_rfl) (by kernel_rfl) (fun _ _ _ h => h) (Or.inl ⟨by rfl, ?hy40⟩) (by assumption) ?r40
            case hy40 => (intro w hSw; (try dsimp only at hSw); go_simp; try with_reducible rfl)
            try simp only [Act.put, List.setIfInBounds_toArray, List.set_cons_zero, List.set_cons_succ]
            refine wpAnyH_take (i := 11) (oi := ⟨some 25, .move (.tmp 3), 3, "l10_tree.go:72", #[⟨9, .guard⟩], some (9, true)⟩) (v := ?v41) rfl (by kernel_rfl) (by kernel_rfl) (by kernel_rfl) (fun _ _ _ h => h) (Or.inl ⟨by rfl, ?hy41⟩) (by assumption) ?r41
            case hy41 => (intro w hSw; (try dsimp only at hSw); go_simp; try with_reducible rfl)
            try simp only [Act.put, List.setIfInBounds_toArray, List.set_cons_zero, List.set_cons_succ]
            refine wpAnyH_take (i := 12) (oi := ⟨some 26, .binOp .sub 3 (.tmp 25) (.const (.int .i64 1)) 3, 3, "l10_tree.go:72", #[⟨11, .data⟩, ⟨9, .guard⟩], some (9, true)⟩) (v := ?v42) rfl (by kernel_rfl) (by kernel_rfl) (by kernel_rfl) (fun _ _ _ h => h) (Or.inl ⟨by rfl, ?hy42⟩) (by assumption) ?r42
            case hy42 => (intro w hSw; (try dsimp only at hSw); go_simp; try with_reducible rfl)
            try simp only [Act.put, List.setIfInBounds_toArray, List.set_cons_zero, List.set_cons_succ]
            refine wpAnyH_take (i := 13) (oi := ⟨some 27, .indexAddr 24 (.tmp 24) (.tmp 26), 0, "l10_tree.go:72", #[⟨10, .data⟩, ⟨12, .data⟩, ⟨9, .guard⟩], some (9, true)⟩) (v := ?v43) rfl (by kernel_rfl) (by kernel_rfl) (by kernel_rfl) (fun _ _ _ h => h) (Or.inl ⟨by rfl, ?hy43⟩) (by assumption) ?r43
            case hy43 => (intro w hSw; (try dsimp only at hSw); go_simp; try with_reducible rfl)
            try simp only [Act.put, List.setIfInBounds_toArray, List.set_cons_zero, List.set_cons_succ]
            refine wpAnyH_take (i := 14) (oi := ⟨some 28, .fieldAddr 29 (.tmp 27) 0, 0, "l10_tree.go:72", #[⟨13, .data⟩, ⟨9, .guard⟩], some (9, true)⟩) (v := ?v44) rfl (by kernel_rfl) (by kernel_rfl) (by kernel_rfl) (fun _ _ _ h => h) (Or.inl ⟨by rfl, ?hy44⟩) (by assumption) ?r44
            case hy44 => (intro w hSw; (try dsimp only at hSw); go_simp; try with_reducible rfl)
            try simp only [Act.put, List.setIfInBounds_toArray, List.set_cons_zero, List.set_cons_succ]
            refine wpAnyH_take (i := 15) (oi := ⟨some 29, .load 9 (.tmp 28), 9, "l10_tree.go:72", #[⟨14, .data⟩, ⟨9, .guard⟩], some (9, true)⟩) (v := ?v45) rfl (by kernel_rfl) (by kernel_rfl) (by kernel_rfl) (fun _ _ _ h => h) (Or.inl ⟨by rfl, ?hy45⟩) (by assumption) ?r45
            case hy45 => (intro w hSw; (try dsimp only at hSw); go_simp; try with_reducible rfl)
            try simp only [Act.put, List.setIfInBounds_toArray, List.set_cons_zero, List.set_cons_succ]
            refine wpAnyH_take (i := 16) (oi := ⟨some 30, .move (.tmp 0), 24, "l10_tree.go:72", #[⟨9, .guard⟩], some (9, true)⟩) (v := ?v46) rfl (by kernel_rfl) (by kernel_rfl) (by kernel_rfl) (fun _ _ _ h => h) (Or.inl ⟨by rfl, ?hy46⟩) (by assumption) ?r46
            case hy46 => (intro w hSw; (try dsimp only at hSw); go_simp; try with_reducible rfl)
            try simp only [Act.put, List.setIfInBounds_toArray, List.set_cons_zero, List.set_cons_succ]
            refine wpAnyH_take (i := 17) (oi := ⟨some 31, .move (.tmp 3), 3, "l10_tree.go:72", #[⟨9, .guard⟩], some (9, true)⟩) (v := ?v47) rfl (by kernel_rfl) (by kernel_rfl) (by kernel_rfl) (fun _ _ _ h => h) (Or.inl ⟨by rfl, ?hy47⟩) (by assumption) ?r47
            case hy47 => (intro w hSw; (try dsimp only at hSw); go_simp; try with_reducible rfl)
            try simp only [Act.put, List.setIfInBounds_toArray, List.set_cons_zero, List.set_cons_succ]
            refine wpAnyH_take (i := 18) (oi := ⟨some 32, .indexAddr 24 (.tmp 30) (.tmp 31), 0, "l10_tree.go:72", #[⟨16, .data⟩, ⟨17, .data⟩, ⟨9, .guard⟩], some (9, true)⟩) (v := ?v48) rfl (by kernel_rfl) (by kernel_rfl) (by kernel_rfl) (fun _ _ _ h => h) (Or.inl ⟨by rfl, ?hy48⟩) (by assumption) ?r48
            case hy48 => (intro w hSw; (try dsimp only at hSw); go_simp; try with_reducible rfl)
            try simp only [Act.put, List.setIfInBounds_toArray, List.set_cons_zero, List.set_cons_succ]
            refine wpAnyH_take (i := 19) (oi := ⟨some 33, .fieldAddr 29 (.tmp 32) 0, 0, "l10_tree.go:72", #[⟨18, .data⟩, ⟨9, .guard⟩], some (9, true)⟩) (v := ?v49) rfl (by kernel_rfl) (by kernel_rfl) (by kernel_rfl) (fun _ _ _ h => h) (Or.inl ⟨by rfl, ?hy49⟩) (by assumption) ?r49
            case hy49 => (intro w hSw; (try dsimp only at hSw); go_simp; try with_reducible rfl)
            try simp only [Act.put, List.setIfInBounds_toArray, List.set_cons_zero, List.set_cons_succ]
            refine wpAnyH_take (i := 20) (oi := ⟨some 34, .load 9 (.tmp 33), 9, "l10_tree.go:72", #[⟨19, .data⟩, ⟨9, .guard⟩], some (9, true)⟩) (v := ?v50) rfl (by kernel_rfl) (by kernel_rfl) (by kernel_rfl) (fun _ _ _ h => h) (Or.inl ⟨by rfl, ?hy50⟩) (by assumption) ?r50
            case hy50 => (intro w hSw; (try dsimp only at hSw); go_simp; try with_reducible rfl)
            try simp only [Act.put, List.setIfInBounds_toArray, List.set_cons_zero, List.set_cons_succ]
            refine wpAnyH_take (i := 21) (oi := ⟨some 35, .binOp .geq 9 (.tmp 29) (.tmp 34) 9, 4, "l10_tree.go:72", #[⟨15, .data⟩, ⟨20, .data⟩, ⟨9, .guard⟩], some (9, true)⟩) (v := ?v51) rfl (by kernel_rfl) (by kernel_rfl) (by kernel_rfl) (fun _ _ _ h => h) (Or.inl ⟨by rfl, ?hy51⟩) (by assumption) ?r51
            case hy51 => (intro w hSw; (try dsimp only at hSw); go_simp; try with_reducible rfl)
            try simp only [Act.put, List.setIfInBounds_toArray, List.set_cons_zero, List.set_cons_succ]
            refine wpAnyH_take (i := 22) (oi := ⟨some 36, .pick (.tmp 23) (.tmp 35) (.const (.bool false)), 4, "l10_tree.go:72", #[⟨9, .data⟩, ⟨21, .data⟩, ⟨6, .guard⟩], some (6, false)⟩) (v := ?v52) rfl (by kernel_rfl) (by kernel_rfl) (by kernel_rfl) (fun _ _ _ h => h) (Or.inl ⟨by rfl, ?hy52⟩) (by assumption) ?r52
            case hy52 => (intro w hSw; (try dsimp only at hSw); go_simp; try with_reducible rfl)
            try simp only [Act.put, List.setIfInBounds_toArray, List.set_cons_zero, List.set_cons_succ]
            refine wpAnyH_take (i := 23) (oi := ⟨some 37, .pick (.tmp 20) (.const (.bool true)) (.tmp 36), 4, "l10_tree.go:72", #[⟨6, .data⟩, ⟨22, .data⟩], none⟩) (v := ?v53) rfl (by kernel_rfl) (by kernel_rfl) (by kernel_rfl) (fun _ _ _ h => h) (Or.inl ⟨by rfl, ?hy53⟩) (by assumption) ?r53
            case hy53 => (intro w hSw; (try dsimp only at hSw); go_simp; try with_reducible rfl)
            try simp only [Act.put, List.setIfInBounds_toArray, List.set_cons_zero, List.set_cons_succ]
            refine wpAnyH_done (by kernel_rfl) ?_ _
            go_wp2_with fail
            go_ret
            exact ⟨by rw [treeB_no (fun h => HF.out h.2)]; first | done | rfl, hb2⟩
        · have hi1' : ¬ (0 : Int) < (i : Int) := by omega
          have HLT : Hid (0 < i → pth E (i - 1) < pth E i) := fun h => absurd h hi1
          go_wp2_with fail
          refine wp_region_held_drew (S := fun w' => w'.cell? ⟨b, o + i * 4, none⟩ = some (.string P) ∧ w'.cell? ⟨b, o + i * 4 + 1, none⟩ = some (.int .i64 k) ∧ w'.cell? ⟨b, o + i * 4 + 2, none⟩ = some (.string d) ∧ w'.cell? ⟨b, o + i * 4 + 3, none⟩ = some (.bool x)) (by kernel_rfl) (HCI.out _ (HBE.out.drew)) (fun hHeld => ?_)
          refine wpAnyH_take (i := 0) (oi := ⟨some 14, .move (.tmp 0), 24, "l10_tree.go:72", #[], none⟩) (v := ?v54) rfl (by kernel_rfl) (by kernel_rfl) (by kernel_rfl) (fun _ _ _ h => h) (Or.inl ⟨by rfl, ?hy54⟩) (by assumption) ?r54
          case hy54 => (intro w hSw; (try dsimp only at hSw); go_simp; try with_reducible rfl)
          try simp only [Act.put, List.setIfInBounds_toArray, List.set_cons_zero, List.set_cons_succ]
          refine wpAnyH_take (i := 1) (oi := ⟨some 15, .move (.tmp 3), 3, "l10_tree.go:72", #[], none⟩) (v := ?v55) rfl (by kernel_rfl) (by kernel_rfl) (by kernel_rfl) (fun _ _ _ h => h) (Or.inl ⟨by rfl, ?hy55⟩) (by assumption) ?r55
          case hy55 => (intro w hSw; (try dsimp only at hSw); go_simp; try with_reducible rfl)
          try simp only [Act.put, List.setIfInBounds_toArray, List.set_cons_zero, List.set_cons_succ]
          refine wpAnyH_take (i := 2) (oi := ⟨some 16, .indexAddr 24 (.tmp 14) (.tmp 15), 0, "l10_tree.go:72", #[⟨0, .data⟩, ⟨1, .data⟩], none⟩) (v := ?v56) rfl (by kernel_rfl) (by kernel_rfl) (by kernel_rfl) (fun _ _ _ h => h) (Or.inl ⟨by rfl, ?hy56⟩) (by assumption) ?r56
          case hy56 => (intro w hSw; (try dsimp only at hSw); go_simp; try with_reducible rfl)
          try simp only [Act.put, List.setIfInBounds_toArray, List.set_cons_zero, List.set_cons_succ]
          refine wpAnyH_take (i := 3) (oi := ⟨some 17, .load 29 (.tmp 16), 29, "l10_tree.go:72", #[⟨2, .data⟩], none⟩) (v := ?v57) rfl (by kernel_rfl) (by kernel_rfl) (by kernel_rfl) (fun _ _ _ h => h) (Or.inl ⟨by rfl, ?hy57⟩) (by assumption) ?r57
          case hy57 => (intro w hSw; (try dsimp only at hSw); go_simp; try with_reducible rfl)
          try simp only [Act.put, List.setIfInBounds_toArray, List.set_cons_zero, List.set_cons_succ]
          refine wpAnyH_ready (rs := [4]) (by kernel_rfl) (by simp) ?_
          refine AllReadyH.cons (o := ⟨some 18, .call { callee := .value (.func 38), args := #[.tmp 17], argTypes := #[29] }, 4, "l10_tree.go:72", #[⟨3, .data⟩], none⟩) rfl (fun K hK => ?_) AllReadyH.nil
          go_simp
          (go_at_call 38; refine (HEN.out _).mono ?_; rintro e w2 ⟨rfl, hl2⟩; have hb2 : Below w.heap.size w w2 := HBE.out.drew.trans (hl2.mono HBE.out.size))
          try go_wp2_with fail
          refine hK.out _ _ (HCI.out _ (hb2)) (fun hHeld => ?_)
          clear hK K
          try simp only [Act.put, List.setIfInBounds_toArray, List.set_cons_zero, List.set_cons_succ]
          refine wpAnyH_take (i := 5) (oi := ⟨some 19, .unOp .not 4 (.tmp 18), 4, "l10_tree.go:72", #[⟨4, .data⟩], none⟩) (v := ?v58) rfl (by kernel_rfl) (by kernel_rfl) (by kernel_rfl) (fun _ _ _ h => h) (Or.inl ⟨by rfl, ?hy58⟩) (by assumption) ?r58
          case hy58 => (intro w hSw; (try dsimp only at hSw); go_simp; try with_reducible rfl)
          try simp only [Act.put, List.setIfInBounds_toArray, List.set_cons_zero, List.set_cons_succ]
          refine wpAnyH_take (i := 6) (oi := ⟨some 20, .move (.tmp 19), 4, "l10_tree.go:72", #[⟨5, .data⟩, ⟨4, .chain⟩], none⟩) (v := ?v59) rfl (by kernel_rfl) (by kernel_rfl) (by kernel_rfl) (fun _ _ _ h => h) (Or.inl ⟨by rfl, ?hy59⟩) (by assumption) ?r59
          case hy59 => (intro w hSw; (try dsimp only at hSw); go_simp; try with_reducible rfl)
          try simp only [Act.put, List.setIfInBounds_toArray, List.set_cons_zero, List.set_cons_succ]
          refine wpAnyH_take (i := 7) (oi := ⟨some 21, .move (.tmp 3), 3, "l10_tree.go:72", #[⟨6, .guard⟩], some (6, false)⟩) (v := ?v60) rfl (by kernel_rfl) (by kernel_rfl) (by kernel_rfl) (fun _ _ _ h => h) (Or.inl ⟨by rfl, ?hy60⟩) (by assumption) ?r60
          case hy60 => (intro w hSw; (try dsimp only at hSw); go_simp; try with_reducible rfl)
          try simp only [Act.put, List.setIfInBounds_toArray, List.set_cons_zero, List.set_cons_succ]
          refine wpAnyH_take (i := 8) (oi := ⟨some 22, .binOp .gtr 3 (.tmp 21) (.const (.int .i64 0)) 3, 4, "l10_tree.go:72", #[⟨7, .data⟩, ⟨6, .guard⟩], some (6, false)⟩) (v := ?v61) rfl (by kernel_rfl) (by kernel_rfl) (by kernel_rfl) (fun _ _ _ h => h) (Or.inl ⟨by rfl, ?hy61⟩) (by assumption) ?r61
          case hy61 => (intro w hSw; (try dsimp only at hSw); go_simp; try with_reducible rfl)
          try simp only [Act.put, List.setIfInBounds_toArray, List.set_cons_zero, List.set_cons_succ]
          refine wpAnyH_take (i := 9) (oi := ⟨some 23, .move (.tmp 22), 4, "l10_tree.go:72", #[⟨8, .data⟩, ⟨6, .chain⟩, ⟨6, .guard⟩], some (6, false)⟩) (v := ?v62) rfl (by kernel_rfl) (by kernel_rfl) (by kernel_rfl) (fun _ _ _ h => h) (Or.inl ⟨by rfl, ?hy62⟩) (by assumption) ?r62
          case hy62 => (intro w hSw; (try dsimp only at hSw); go_simp; try with_reducible rfl)
          try simp only [Act.put, List.setIfInBounds_toArray, List.set_cons_zero, List.set_cons_succ]
          refine wpAnyH_take (i := 10) (oi := ⟨some 24, .move (.tmp 0), 24, "l10_tree.go:72", #[⟨9, .guard⟩], some (9, true)⟩) (v := undef) rfl (by kernel_rfl) (by kernel_rfl) (by kernel_rfl) (fun _ _ _ h => h) (Or.inr ⟨by rfl, rfl⟩) (by assumption) ?_
          try simp only [Act.put, List.setIfInBounds_toArray, List.set_cons_zero, List.set_cons_succ]
          refine wpAnyH_take (i := 11) (oi := ⟨some 25, .move (.tmp 3), 3, "l10_tree.go:72", #[⟨9, .guard⟩], some (9, true)⟩) (v := undef) rfl (by kernel_rfl) (by kernel_rfl) (by kernel_rfl) (fun _ _ _ h => h) (Or.inr ⟨by rfl, rfl⟩) (by assumption) ?_
          try simp only [Act.put, List.setIfInBounds_toArray, List.set_cons_zero, List.set_cons_succ]
          refine wpAnyH_take (i := 12) (oi := ⟨some 26, .binOp .sub 3 (.tmp 25) (.const (.int .i64 1)) 3, 3, "l10_tree.go:72", #[⟨11, .data⟩, ⟨9, .guard⟩], some (9, true)⟩) (v := undef) rfl (by kernel_rfl) (by kernel_rfl) (by kernel_rfl) (fun _ _ _ h => h) (Or.inr ⟨by rfl, rfl⟩) (by assumption) ?_
          try simp only [Act.put, List.setIfInBounds_toArray, List.set_cons_zero, List.set_cons_succ]
          refine wpAnyH_take (i := 13) (oi := ⟨some 27, .indexAddr 24 (.tmp 24) (.tmp 26), 0, "l10_tree.go:72", #[⟨10, .data⟩, ⟨12, .data⟩, ⟨9, .guard⟩], some (9, true)⟩) (v := undef) rfl (by kernel_rfl) (by kernel_rfl) (by kernel_rfl) (fun _ _ _ h => h) (Or.inr ⟨by rfl, rfl⟩) (by assumption) ?_
          try simp only [Act.put, List.setIfInBounds_toArray, List.set_cons_zero, List.set_cons_succ]
          refine wpAnyH_take (i := 14) (oi := ⟨some 28, .fieldAddr 29 (.tmp 27) 0, 0, "l10_tree.go:72", #[⟨13, .data⟩, ⟨9, .guard⟩], some (9, true)⟩) (v := undef) rfl (by kernel_rfl) (by kernel_rfl) (by kernel_rfl) (fun _ _ _ h => h) (Or.inr ⟨by rfl, rfl⟩) (by assumption) ?_
          try simp only [Act.put, List.setIfInBounds_toArray, List.set_cons_zero, List.set_cons_succ]
          refine wpAnyH_take (i := 15) (oi := ⟨some 29, .load 9 (.tmp 28), 9, "l10_tree.go:72", #[⟨14, .data⟩, ⟨9, .guard⟩], some (9, true)⟩) (v := undef) rfl (by kernel_rfl) (by kernel_rfl) (by kernel_rfl) (fun _ _ _ h => h) (Or.inr ⟨by rfl, rfl⟩) (by assumption) ?_
          try simp only [Act.put, List.setIfInBounds_toArray, List.set_cons_zero, List.set_cons_succ]
          refine wpAnyH_take (i := 16) (oi := ⟨some 30, .move (.tmp 0), 24, "l10_tree.go:72", #[⟨9, .guard⟩], some (9, true)⟩) (v := undef) rfl (by kernel_rfl) (by kernel_rfl) (by kernel_rfl) (fun _ _ _ h => h) (Or.inr ⟨by rfl, rfl⟩) (by assumption) ?_
          try simp only [Act.put, List.setIfInBounds_toArray, List.set_cons_zero, List.set_cons_succ]
          refine wpAnyH_take (i := 17) (oi := ⟨some 31, .move (.tmp 3), 3, "l10_tree.go:72", #[⟨9, .guard⟩], some (9, true)⟩) (v := undef) rfl (by kernel_rfl) (by kernel_rfl) (by kernel_rfl) (fun _ _ _ h => h) (Or.inr ⟨by rfl, rfl⟩) (by assumption) ?_
          try simp only [Act.put, List.setIfInBounds_toArray, List.set_cons_zero, List.set_cons_succ]
          refine wpAnyH_take (i := 18) (oi := ⟨some 32, .indexAddr 24 (.tmp 30) (.tmp 31), 0, "l10_tree.go:72", #[⟨16, .data⟩, ⟨17, .data⟩, ⟨9, .guard⟩], some (9, true)⟩) (v := undef) rfl (by kernel_rfl) (by kernel_rfl) (by kernel_rfl) (fun _ _ _ h => h) (Or.inr ⟨by rfl, rfl⟩) (by assumption) ?_
          try simp only [Act.put, List.setIfInBounds_toArray, List.set_cons_zero, List.set_cons_succ]
          refine wpAnyH_take (i := 19) (oi := ⟨some 33, .fieldAddr 29 (.tmp 32) 0, 0, "l10_tree.go:72", #[⟨18, .data⟩, ⟨9, .guard⟩], some (9, true)⟩) (v := undef) rfl (by kernel_rfl) (by kernel_rfl) (by kernel_rfl) (fun _ _ _ h => h) (Or.inr ⟨by rfl, rfl⟩) (by assumption) ?_
          try simp only [Act.put, List.setIfInBounds_toArray, List.set_cons_zero, List.set_cons_succ]
          refine wpAnyH_take (i := 20) (oi := ⟨some 34, .load 9 (.tmp 33), 9, "l10_tree.go:72", #[⟨19, .data⟩, ⟨9, .guard⟩], some (9, true)⟩) (v := undef) rfl (by kernel_rfl) (by kernel_rfl) (by kernel_rfl) (fun _ _ _ h => h) (Or.inr ⟨by rfl, rfl⟩) (by assumption) ?_
          try simp only [Act.put, List.setIfInBounds_toArray, List.set_cons_zero, List.set_cons_succ]
          refine wpAnyH_take (i := 21) (oi := ⟨some 35, .binOp .geq 9 (.tmp 29) (.tmp 34) 9, 4, "l10_tree.go:72", #[⟨15, .data⟩, ⟨20, .data⟩, ⟨9, .guard⟩], some (9, true)⟩) (v := undef) rfl (by kernel_rfl) (by kernel_rfl) (by kernel_rfl) (fun _ _ _ h => h) (Or.inr ⟨by rfl, rfl⟩) (by assumption) ?_
          try simp only [Act.put, List.setIfInBounds_toArray, List.set_cons_zero, List.set_cons_succ]
          refine wpAnyH_take (i := 22) (oi := ⟨some 36, .pick (.tmp 23) (.tmp 35) (.const (.bool false)), 4, "l10_tree.go:72", #[⟨9, .data⟩, ⟨21, .data⟩, ⟨6, .guard⟩], some (6, false)⟩) (v := ?v63) rfl (by kernel_rfl) (by kernel_rfl) (by kernel_rfl) (fun _ _ _ h => h) (Or.inl ⟨by rfl, ?hy63⟩) (by assumption) ?r63
          case hy63 => (intro w hSw; (try dsimp only at hSw); go_simp; try with_reducible rfl)
          try simp only [Act.put, List.setIfInBounds_toArray, List.set_cons_zero, List.set_cons_succ]
          refine wpAnyH_take (i := 23) (oi := ⟨some 37, .pick (.tmp 20) (.const (.bool true)) (.tmp 36), 4, "l10_tree.go:72", #[⟨6, .data⟩, ⟨22, .data⟩], none⟩) (v := ?v64) rfl (by kernel_rfl) (by kernel_rfl) (by kernel_rfl) (fun _ _ _ h => h) (Or.inl ⟨by rfl, ?hy64⟩) (by assumption) ?r64
          case hy64 => (intro w hSw; (try dsimp only at hSw); go_simp; try with_reducible rfl)
          try simp only [Act.put, List.setIfInBounds_toArray, List.set_cons_zero, List.set_cons_succ]
          refine wpAnyH_done (by kernel_rfl) ?_ _
          obtain ⟨z0, -, -, -⟩ := HCI.out _ hb2
          go_wp2_with (go_at_call 39; refine (HUP.out _).mono ?_; rintro e w3 ⟨rfl, hl3⟩; have hb3 : Below w.heap.size w w3 := hb2.trans (hl3.mono hb2.size); refine Hid.out ?_)
          refine Lib.hid ?_
          cases hue : U.toList.isEmpty with
          | true =>
            have HN : Hid (Tr E (i + 1)) := HTR.out.next HEO.out HLT.out (fun h => absurd (HUE.out.1 hue) h)
            go_wp2
            go_roundw
            case rel => exact ⟨i + 1, by omega, by go_num, HN.out, hb3⟩
            case measure => simp [intOf] <;> omega
          | false =>
            have HNE : Hid (up (pth E i) ≠ []) := fun h => by have := HUE.out.2 h; rw [hue] at this; cases this
            have HDI : Hid (Calls Tryz.prog 40 #[.slice (some ⟨b, o, none⟩) i cap, .string U] w3 fun e w' => e = .returned (.bool (dirB E i (up (pth E i)))) ∧ Below w3.heap.size w3 w') := HDR.out w3 hb3
            cases hdb : dirB E i (up (pth E i)) with
            | false =>
              rw [hdb] at HDI
              have HF : Hid (¬ Tr E n) := fun h => by
                rw [dirB_yes (h.2.2 i hil HNE.out)] at hdb
                cases hdb
              clear hdb
              go_wp2_with (go_at_call 40; refine HDI.out.mono ?_; rintro e w4 ⟨rfl, hl4⟩; have hb4 : Below w.heap.size w w4 := hb3.trans (hl4.mono hb3.size))
              go_ret
              exact ⟨by rw [treeB_no (fun h => HF.out h.2)]; first | done | rfl, hb4⟩
            | true =>
              rw [hdb] at HDI
              have HN : Hid (Tr E (i + 1)) := HTR.out.next HEO.out HLT.out (fun _ => dirB_iff.1 hdb)
              clear hdb
              go_wp2_with (go_at_call 40; refine HDI.out.mono ?_; rintro e w4 ⟨rfl, hl4⟩; have hb4 : Below w.heap.size w w4 := hb3.trans (hl4.mono hb3.size))
              go_roundw
              case rel => exact ⟨i + 1, by omega, by go_num, HN.out, hb4⟩
              case measure => simp [intOf] <;> omega
    · have hil' : ¬ (i : Int) < (n : Int) := by omega
      obtain rfl : i = n := by omega
      clear hbel
      go_wp2
      go_ret
      exact ⟨by rw [treeB_yes (by omega) HTR.out]; first | done | rfl, HBE.out⟩

end Go.Proofs.YtaoimkjcaienbaaGreatDoor.tt
