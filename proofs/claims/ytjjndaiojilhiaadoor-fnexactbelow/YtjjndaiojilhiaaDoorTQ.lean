import Derived.Test.YtjjndaiojilhiaaDoorTP
namespace Go.Proofs.YtjjndaiojilhiaaDoor.tt
open Go.ChangeShapes Go.WideShapes Go.ChangeAt Go.RowKit Go.Deep
set_option linter.unusedVariables false
set_option linter.unusedSimpArgs false

/-! ### Trees of files: the program, an ascending list -/

set_option maxRecDepth 100000 in
theorem less_any (p d p' d' : ByteArray) (k k' : Int) (x x' : Bool) (w : World) :
    Calls Tryd.prog 39 #[.agg #[.string p, .int .i64 k, .string d, .bool x], .agg #[.string p', .int .i64 k', .string d', .bool x']] w fun e w' => e = .returned (.bool (Op.bytesLess p.toList p'.toList)) ∧ Below w.heap.size w w' := by
  obtain ⟨r, hr⟩ : ∃ r, Op.bytesLess p.toList p'.toList = r := ⟨_, rfl⟩
  go_enter Tryd.func39, Tryd.ntmps39
  go_wp2
  go_ret
  exact ⟨by first | rfl | simp [hr], ((Below.refl _ _).alloc (Nat.le_refl _) _).alloc (by simp) _⟩

def Adj (E : Nat → En) (n : Nat) : Prop := ∀ i, i + 1 < n → pth E i < pth E (i + 1)
noncomputable def adjB (E : Nat → En) (n : Nat) : Bool := @decide (Adj E n) (Classical.propDecidable _)
theorem adjB_yes {E : Nat → En} {n : Nat} (h : Adj E n) : adjB E n = true := by unfold adjB; exact @decide_eq_true _ (Classical.propDecidable _) h
theorem adjB_no {E : Nat → En} {n : Nat} (h : ¬ Adj E n) : adjB E n = false := by unfold adjB; exact @decide_eq_false _ (Classical.propDecidable _) h
theorem adjB_iff {E : Nat → En} {n : Nat} : adjB E n = true ↔ Adj E n := by unfold adjB; exact @decide_eq_true_iff _ (Classical.propDecidable _)

set_option maxHeartbeats 4000000 in
set_option maxRecDepth 100000 in
theorem asc_any (E : Nat → En) (b o n cap : Nat) (w : World) (hR : EnR w b o n E) (hn : n ≤ 1048576) :
    Calls Tryd.prog 38 #[.slice (some ⟨b, o, none⟩) n cap, .func (.func 39) #[] #[]] w fun e w' => e = .returned (.bool (adjB E n)) ∧ Below w.heap.size w w' := by
  have HER : Hid (EnR w b o n E) := hR
  clear hR
  go_enter Tryd.func38, Tryd.ntmps38
  go_wp2
  go_loopw [5, 8] (fun _ x wr => ∃ i : Nat, i ≤ n ∧ x = .int .i64 (i : Int) ∧ Adj E i ∧ Below w.heap.size w wr) (fun _ x _ => n - (intOf x).toNat)
  case atStart => exact ⟨0, Nat.zero_le _, rfl, fun i h => by omega, Below.refl _ _⟩
  case round =>
    obtain ⟨i, hi, rfl, hadj, hbel⟩ := hrel
    have HAD : Hid (Adj E i) := hadj
    have HBE : Hid (Below w.heap.size w wr) := hbel
    clear hadj
    by_cases hil : i < n
    · have hil' : (i : Int) < (n : Int) := by omega
      have hi0 : (0 : Int) ≤ (i : Int) := by omega
      by_cases hi1 : 0 < i
      · have hi1' : (0 : Int) < (i : Int) := by omega
        obtain ⟨K, hKk⟩ : ∃ K, i = K + 1 := ⟨i - 1, by omega⟩
        have HKk : Hid (i = K + 1) := hKk
        have hK1 : (i : Int) - 1 = (K : Int) := by omega
        have hK2 : (K : Int) < (n : Int) := by omega
        have hK0 : (0 : Int) ≤ (K : Int) := by omega
        have hK3 : IntKind.i64.wrap ((i : Int) - 1) = (K : Int) := by rw [IntKind.wrap_i64]; omega
        have hK4 : IntKind.i64.wrap (K : Int) = (K : Int) := by rw [IntKind.wrap_i64]; omega
        obtain ⟨P, hP⟩ : ∃ P, (E i).path = P := ⟨_, rfl⟩
        obtain ⟨kP, hkP⟩ : ∃ k, (E i).kind = k := ⟨_, rfl⟩
        obtain ⟨dP, hdP⟩ : ∃ d, (E i).data = d := ⟨_, rfl⟩
        obtain ⟨xP, hxP⟩ : ∃ x, (E i).exec = x := ⟨_, rfl⟩
        obtain ⟨M, hM⟩ : ∃ P, (E K).path = P := ⟨_, rfl⟩
        obtain ⟨kM, hkM⟩ : ∃ k, (E K).kind = k := ⟨_, rfl⟩
        obtain ⟨dM, hdM⟩ : ∃ d, (E K).data = d := ⟨_, rfl⟩
        obtain ⟨xM, hxM⟩ : ∃ x, (E K).exec = x := ⟨_, rfl⟩
        have HCC : Hid (∀ w' : World, Below w.heap.size w w' → (w'.cell? ⟨b, o + K * 4, none⟩ = some (.string M) ∧ w'.cell? ⟨b, o + K * 4 + 1, none⟩ = some (.int .i64 kM) ∧ w'.cell? ⟨b, o + K * 4 + 2, none⟩ = some (.string dM) ∧ w'.cell? ⟨b, o + K * 4 + 3, none⟩ = some (.bool xM)) ∧ w'.cell? ⟨b, o + i * 4, none⟩ = some (.string P) ∧ w'.cell? ⟨b, o + i * 4 + 1, none⟩ = some (.int .i64 kP) ∧ w'.cell? ⟨b, o + i * 4 + 2, none⟩ = some (.string dP) ∧ w'.cell? ⟨b, o + i * 4 + 3, none⟩ = some (.bool xP)) := fun w' hb => by
          have h1 := (HER.out K (by omega)).below hb
          have h2 := (HER.out i hil).below hb
          unfold N4 at h1 h2
          rw [hM, hkM, hdM, hxM] at h1
          rw [hP, hkP, hdP, hxP] at h2
          exact ⟨h1, h2⟩
        have HPI : Hid (pth E i = P.data.toList) := by show _ = _; unfold pth; rw [hP]
        have HPK : Hid (pth E K = M.data.toList) := by show _ = _; unfold pth; rw [hM]
        have HLE : Hid (∀ W, Calls Tryd.prog 39 #[.agg #[.string M, .int .i64 kM, .string dM, .bool xM], .agg #[.string P, .int .i64 kP, .string dP, .bool xP]] W fun e w' => e = .returned (.bool (Op.bytesLess M.toList P.toList)) ∧ Below W.heap.size W w') := fun W => less_any _ _ _ _ _ _ _ _ W
        clear hP hkP hdP hxP hM hkM hdM hxM hKk hbel
        cases hbl : Op.bytesLess M.toList P.toList with
        | true =>
          rw [hbl] at HLE
          have HN : Hid (Adj E (i + 1)) := fun j hj => by
            rcases Nat.lt_or_ge (j + 1) i with h | h
            · exact HAD.out j h
            · obtain rfl : j = K := by have := HKk.out; omega
              rw [show j + 1 = i from HKk.out.symm, HPI.out, HPK.out]
              have := bl M P
              rw [hbl] at this
              simpa using this.symm
          clear hbl
          go_wp2_with fail
          refine wp_region_held_drew (S := fun w' => (w'.cell? ⟨b, o + K * 4, none⟩ = some (.string M) ∧ w'.cell? ⟨b, o + K * 4 + 1, none⟩ = some (.int .i64 kM) ∧ w'.cell? ⟨b, o + K * 4 + 2, none⟩ = some (.string dM) ∧ w'.cell? ⟨b, o + K * 4 + 3, none⟩ = some (.bool xM)) ∧ w'.cell? ⟨b, o + i * 4, none⟩ = some (.string P) ∧ w'.cell? ⟨b, o + i * 4 + 1, none⟩ = some (.int .i64 kP) ∧ w'.cell? ⟨b, o + i * 4 + 2, none⟩ = some (.string dP) ∧ w'.cell? ⟨b, o + i * 4 + 3, none⟩ = some (.bool xP)) (by kernel_rfl) (HCC.out _ HBE.out.drew) (fun hHeld => ?_)
          refine wpAnyH_take (i := 0) (oi := ⟨some 11, .move (.tmp 5), 3, "l05_drv.go:105", #[], none⟩) (v := ?v1) rfl (by kernel_rfl) (by kernel_rfl) (by kernel_rfl) (fun _ _ _ h => h) (Or.inl ⟨by rfl, ?hy1⟩) (by assumption) ?r1
          case hy1 => (intro w hSw; (try dsimp only at hSw); go_simp; try with_reducible rfl)
          try simp only [Act.put, List.setIfInBounds_toArray, List.set_cons_zero, List.set_cons_succ]
          refine wpAnyH_take (i := 1) (oi := ⟨some 12, .binOp .gtr 3 (.tmp 11) (.const (.int .i64 0)) 3, 4, "l05_drv.go:105", #[⟨0, .data⟩], none⟩) (v := ?v2) rfl (by kernel_rfl) (by kernel_rfl) (by kernel_rfl) (fun _ _ _ h => h) (Or.inl ⟨by rfl, ?hy2⟩) (by assumption) ?r2
          case hy2 => (intro w hSw; (try dsimp only at hSw); go_simp; try with_reducible rfl)
          try simp only [Act.put, List.setIfInBounds_toArray, List.set_cons_zero, List.set_cons_succ]
          refine wpAnyH_take (i := 2) (oi := ⟨some 13, .move (.tmp 12), 4, "l05_drv.go:105", #[⟨1, .data⟩], none⟩) (v := ?v3) rfl (by kernel_rfl) (by kernel_rfl) (by kernel_rfl) (fun _ _ _ h => h) (Or.inl ⟨by rfl, ?hy3⟩) (by assumption) ?r3
          case hy3 => (intro w hSw; (try dsimp only at hSw); go_simp; try with_reducible rfl)
          try simp only [Act.put, List.setIfInBounds_toArray, List.set_cons_zero, List.set_cons_succ]
          refine wpAnyH_take (i := 3) (oi := ⟨some 14, .move (.tmp 1), 48, "l05_drv.go:105", #[⟨2, .guard⟩], some (2, true)⟩) (v := ?v4) rfl (by kernel_rfl) (by kernel_rfl) (by kernel_rfl) (fun _ _ _ h => h) (Or.inl ⟨by rfl, ?hy4⟩) (by assumption) ?r4
          case hy4 => (intro w hSw; (try dsimp only at hSw); go_simp; try with_reducible rfl)
          try simp only [Act.put, List.setIfInBounds_toArray, List.set_cons_zero, List.set_cons_succ]
          refine wpAnyH_take (i := 4) (oi := ⟨some 15, .move (.tmp 0), 24, "l05_drv.go:105", #[⟨2, .guard⟩], some (2, true)⟩) (v := ?v5) rfl (by kernel_rfl) (by kernel_rfl) (by kernel_rfl) (fun _ _ _ h => h) (Or.inl ⟨by rfl, ?hy5⟩) (by assumption) ?r5
          case hy5 => (intro w hSw; (try dsimp only at hSw); go_simp; try with_reducible rfl)
          try simp only [Act.put, List.setIfInBounds_toArray, List.set_cons_zero, List.set_cons_succ]
          refine wpAnyH_take (i := 5) (oi := ⟨some 16, .move (.tmp 5), 3, "l05_drv.go:105", #[⟨2, .guard⟩], some (2, true)⟩) (v := ?v6) rfl (by kernel_rfl) (by kernel_rfl) (by kernel_rfl) (fun _ _ _ h => h) (Or.inl ⟨by rfl, ?hy6⟩) (by assumption) ?r6
          case hy6 => (intro w hSw; (try dsimp only at hSw); go_simp; try with_reducible rfl)
          try simp only [Act.put, List.setIfInBounds_toArray, List.set_cons_zero, List.set_cons_succ]
          refine wpAnyH_take (i := 6) (oi := ⟨some 17, .binOp .sub 3 (.tmp 16) (.const (.int .i64 1)) 3, 3, "l05_drv.go:105", #[⟨5, .data⟩, ⟨2, .guard⟩], some (2, true)⟩) (v := ?v7) rfl (by kernel_rfl) (by kernel_rfl) (by kernel_rfl) (fun _ _ _ h => h) (Or.inl ⟨by rfl, ?hy7⟩) (by assumption) ?r7
          case hy7 => (intro w hSw; (try dsimp only at hSw); go_simp; try with_reducible rfl)
          try simp only [Act.put, List.setIfInBounds_toArray, List.set_cons_zero, List.set_cons_succ]
          refine wpAnyH_take (i := 7) (oi := ⟨some 18, .indexAddr 24 (.tmp 15) (.tmp 17), 0, "l05_drv.go:105", #[⟨4, .data⟩, ⟨6, .data⟩, ⟨2, .guard⟩], some (2, true)⟩) (v := ?v8) rfl (by kernel_rfl) (by kernel_rfl) (by kernel_rfl) (fun _ _ _ h => h) (Or.inl ⟨by rfl, ?hy8⟩) (by assumption) ?r8
          case hy8 => (intro w hSw; (try dsimp only at hSw); go_simp; try with_reducible rfl)
          try simp only [Act.put, List.setIfInBounds_toArray, List.set_cons_zero, List.set_cons_succ]
          refine wpAnyH_take (i := 8) (oi := ⟨some 19, .load 38 (.tmp 18), 38, "l05_drv.go:105", #[⟨7, .data⟩, ⟨2, .guard⟩], some (2, true)⟩) (v := ?v9) rfl (by kernel_rfl) (by kernel_rfl) (by kernel_rfl) (fun _ _ _ h => h) (Or.inl ⟨by rfl, ?hy9⟩) (by assumption) ?r9
          case hy9 => (intro w hSw; (try dsimp only at hSw); go_simp; try with_reducible rfl)
          try simp only [Act.put, List.setIfInBounds_toArray, List.set_cons_zero, List.set_cons_succ]
          refine wpAnyH_take (i := 9) (oi := ⟨some 20, .move (.tmp 0), 24, "l05_drv.go:105", #[⟨2, .guard⟩], some (2, true)⟩) (v := ?v10) rfl (by kernel_rfl) (by kernel_rfl) (by kernel_rfl) (fun _ _ _ h => h) (Or.inl ⟨by rfl, ?hy10⟩) (by assumption) ?r10
          case hy10 => (intro w hSw; (try dsimp only at hSw); go_simp; try with_reducible rfl)
          try simp only [Act.put, List.setIfInBounds_toArray, List.set_cons_zero, List.set_cons_succ]
          refine wpAnyH_take (i := 10) (oi := ⟨some 21, .move (.tmp 5), 3, "l05_drv.go:105", #[⟨2, .guard⟩], some (2, true)⟩) (v := ?v11) rfl (by kernel_rfl) (by kernel_rfl) (by kernel_rfl) (fun _ _ _ h => h) (Or.inl ⟨by rfl, ?hy11⟩) (by assumption) ?r11
          case hy11 => (intro w hSw; (try dsimp only at hSw); go_simp; try with_reducible rfl)
          try simp only [Act.put, List.setIfInBounds_toArray, List.set_cons_zero, List.set_cons_succ]
          refine wpAnyH_take (i := 11) (oi := ⟨some 22, .indexAddr 24 (.tmp 20) (.tmp 21), 0, "l05_drv.go:105", #[⟨9, .data⟩, ⟨10, .data⟩, ⟨2, .guard⟩], some (2, true)⟩) (v := ?v12) rfl (by kernel_rfl) (by kernel_rfl) (by kernel_rfl) (fun _ _ _ h => h) (Or.inl ⟨by rfl, ?hy12⟩) (by assumption) ?r12
          case hy12 => (intro w hSw; (try dsimp only at hSw); go_simp; try with_reducible rfl)
          try simp only [Act.put, List.setIfInBounds_toArray, List.set_cons_zero, List.set_cons_succ]
          refine wpAnyH_take (i := 12) (oi := ⟨some 23, .load 38 (.tmp 22), 38, "l05_drv.go:105", #[⟨11, .data⟩, ⟨2, .guard⟩], some (2, true)⟩) (v := ?v13) rfl (by kernel_rfl) (by kernel_rfl) (by kernel_rfl) (fun _ _ _ h => h) (Or.inl ⟨by rfl, ?hy13⟩) (by assumption) ?r13
          case hy13 => (intro w hSw; (try dsimp only at hSw); go_simp; try with_reducible rfl)
          try simp only [Act.put, List.setIfInBounds_toArray, List.set_cons_zero, List.set_cons_succ]
          refine wpAnyH_ready (rs := [13]) (by kernel_rfl) (by simp) ?_
          refine AllReadyH.cons (o := ⟨some 24, .call { callee := .value (.tmp 14), args := #[.tmp 19, .tmp 23], argTypes := #[38, 38] }, 4, "l05_drv.go:105", #[⟨3, .data⟩, ⟨8, .data⟩, ⟨12, .data⟩, ⟨2, .chain⟩, ⟨2, .guard⟩], some (2, true)⟩) rfl (fun K hK => ?_) AllReadyH.nil
          go_simp
          (go_at_call 39; refine (HLE.out _).mono ?_; rintro e w2 ⟨rfl, hl2⟩; have hb2 : Below w.heap.size w w2 := HBE.out.drew.trans (hl2.mono HBE.out.size))
          try go_wp2_with fail
          refine hK.out _ _ (HCC.out _ hb2) (fun hHeld => ?_)
          clear hK K
          try simp only [Act.put, List.setIfInBounds_toArray, List.set_cons_zero, List.set_cons_succ]
          refine wpAnyH_take (i := 14) (oi := ⟨some 25, .unOp .not 4 (.tmp 24), 4, "l05_drv.go:105", #[⟨13, .data⟩, ⟨2, .guard⟩], some (2, true)⟩) (v := ?v14) rfl (by kernel_rfl) (by kernel_rfl) (by kernel_rfl) (fun _ _ _ h => h) (Or.inl ⟨by rfl, ?hy14⟩) (by assumption) ?r14
          case hy14 => (intro w hSw; (try dsimp only at hSw); go_simp; try with_reducible rfl)
          try simp only [Act.put, List.setIfInBounds_toArray, List.set_cons_zero, List.set_cons_succ]
          refine wpAnyH_take (i := 15) (oi := ⟨some 26, .pick (.tmp 13) (.tmp 25) (.const (.bool false)), 4, "l05_drv.go:105", #[⟨2, .data⟩, ⟨14, .data⟩], none⟩) (v := ?v15) rfl (by kernel_rfl) (by kernel_rfl) (by kernel_rfl) (fun _ _ _ h => h) (Or.inl ⟨by rfl, ?hy15⟩) (by assumption) ?r15
          case hy15 => (intro w hSw; (try dsimp only at hSw); go_simp; try with_reducible rfl)
          try simp only [Act.put, List.setIfInBounds_toArray, List.set_cons_zero, List.set_cons_succ]
          refine wpAnyH_done (by kernel_rfl) ?_ _
          go_wp2_with fail
          go_roundw
          case rel => exact ⟨i + 1, by omega, by go_num, HN.out, hb2⟩
          case measure => simp [intOf] <;> omega
        | false =>
          rw [hbl] at HLE
          have HF : Hid (¬ Adj E n) := fun h => by
            have h2 := h K (by have := HKk.out; omega)
            rw [show K + 1 = i from HKk.out.symm, HPK.out, HPI.out] at h2
            have := bl M P
            rw [hbl] at this
            simp at this
            exact absurd h2 (List.not_lt.2 this)
          clear hbl
          go_wp2_with fail
          refine wp_region_held_drew (S := fun w' => (w'.cell? ⟨b, o + K * 4, none⟩ = some (.string M) ∧ w'.cell? ⟨b, o + K * 4 + 1, none⟩ = some (.int .i64 kM) ∧ w'.cell? ⟨b, o + K * 4 + 2, none⟩ = some (.string dM) ∧ w'.cell? ⟨b, o + K * 4 + 3, none⟩ = some (.bool xM)) ∧ w'.cell? ⟨b, o + i * 4, none⟩ = some (.string P) ∧ w'.cell? ⟨b, o + i * 4 + 1, none⟩ = some (.int .i64 kP) ∧ w'.cell? ⟨b, o + i * 4 + 2, none⟩ = some (.string dP) ∧ w'.cell? ⟨b, o + i * 4 + 3, none⟩ = some (.bool xP)) (by kernel_rfl) (HCC.out _ HBE.out.drew) (fun hHeld => ?_)
          refine wpAnyH_take (i := 0) (oi := ⟨some 11, .move (.tmp 5), 3, "l05_drv.go:105", #[], none⟩) (v := ?v16) rfl (by kernel_rfl) (by kernel_rfl) (by kernel_rfl) (fun _ _ _ h => h) (Or.inl ⟨by rfl, ?hy16⟩) (by assumption) ?r16
          case hy16 => (intro w hSw; (try dsimp only at hSw); go_simp; try with_reducible rfl)
          try simp only [Act.put, List.setIfInBounds_toArray, List.set_cons_zero, List.set_cons_succ]
          refine wpAnyH_take (i := 1) (oi := ⟨some 12, .binOp .gtr 3 (.tmp 11) (.const (.int .i64 0)) 3, 4, "l05_drv.go:105", #[⟨0, .data⟩], none⟩) (v := ?v17) rfl (by kernel_rfl) (by kernel_rfl) (by kernel_rfl) (fun _ _ _ h => h) (Or.inl ⟨by rfl, ?hy17⟩) (by assumption) ?r17
          case hy17 => (intro w hSw; (try dsimp only at hSw); go_simp; try with_reducible rfl)
          try simp only [Act.put, List.setIfInBounds_toArray, List.set_cons_zero, List.set_cons_succ]
          refine wpAnyH_take (i := 2) (oi := ⟨some 13, .move (.tmp 12), 4, "l05_drv.go:105", #[⟨1, .data⟩], none⟩) (v := ?v18) rfl (by kernel_rfl) (by kernel_rfl) (by kernel_rfl) (fun _ _ _ h => h) (Or.inl ⟨by rfl, ?hy18⟩) (by assumption) ?r18
          case hy18 => (intro w hSw; (try dsimp only at hSw); go_simp; try with_reducible rfl)
          try simp only [Act.put, List.setIfInBounds_toArray, List.set_cons_zero, List.set_cons_succ]
          refine wpAnyH_take (i := 3) (oi := ⟨some 14, .move (.tmp 1), 48, "l05_drv.go:105", #[⟨2, .guard⟩], some (2, true)⟩) (v := ?v19) rfl (by kernel_rfl) (by kernel_rfl) (by kernel_rfl) (fun _ _ _ h => h) (Or.inl ⟨by rfl, ?hy19⟩) (by assumption) ?r19
          case hy19 => (intro w hSw; (try dsimp only at hSw); go_simp; try with_reducible rfl)
          try simp only [Act.put, List.setIfInBounds_toArray, List.set_cons_zero, List.set_cons_succ]
          refine wpAnyH_take (i := 4) (oi := ⟨some 15, .move (.tmp 0), 24, "l05_drv.go:105", #[⟨2, .guard⟩], some (2, true)⟩) (v := ?v20) rfl (by kernel_rfl) (by kernel_rfl) (by kernel_rfl) (fun _ _ _ h => h) (Or.inl ⟨by rfl, ?hy20⟩) (by assumption) ?r20
          case hy20 => (intro w hSw; (try dsimp only at hSw); go_simp; try with_reducible rfl)
          try simp only [Act.put, List.setIfInBounds_toArray, List.set_cons_zero, List.set_cons_succ]
          refine wpAnyH_take (i := 5) (oi := ⟨some 16, .move (.tmp 5), 3, "l05_drv.go:105", #[⟨2, .guard⟩], some (2, true)⟩) (v := ?v21) rfl (by kernel_rfl) (by kernel_rfl) (by kernel_rfl) (fun _ _ _ h => h) (Or.inl ⟨by rfl, ?hy21⟩) (by assumption) ?r21
          case hy21 => (intro w hSw; (try dsimp only at hSw); go_simp; try with_reducible rfl)
          try simp only [Act.put, List.setIfInBounds_toArray, List.set_cons_zero, List.set_cons_succ]
          refine wpAnyH_take (i := 6) (oi := ⟨some 17, .binOp .sub 3 (.tmp 16) (.const (.int .i64 1)) 3, 3, "l05_drv.go:105", #[⟨5, .data⟩, ⟨2, .guard⟩], some (2, true)⟩) (v := ?v22) rfl (by kernel_rfl) (by kernel_rfl) (by kernel_rfl) (fun _ _ _ h => h) (Or.inl ⟨by rfl, ?hy22⟩) (by assumption) ?r22
          case hy22 => (intro w hSw; (try dsimp only at hSw); go_simp; try with_reducible rfl)
          try simp only [Act.put, List.setIfInBounds_toArray, List.set_cons_zero, List.set_cons_succ]
          refine wpAnyH_take (i := 7) (oi := ⟨some 18, .indexAddr 24 (.tmp 15) (.tmp 17), 0, "l05_drv.go:105", #[⟨4, .data⟩, ⟨6, .data⟩, ⟨2, .guard⟩], some (2, true)⟩) (v := ?v23) rfl (by kernel_rfl) (by kernel_rfl) (by kernel_rfl) (fun _ _ _ h => h) (Or.inl ⟨by rfl, ?hy23⟩) (by assumption) ?r23
          case hy23 => (intro w hSw; (try dsimp only at hSw); go_simp; try with_reducible rfl)
          try simp only [Act.put, List.setIfInBounds_toArray, List.set_cons_zero, List.set_cons_succ]
          refine wpAnyH_take (i := 8) (oi := ⟨some 19, .load 38 (.tmp 18), 38, "l05_drv.go:105", #[⟨7, .data⟩, ⟨2, .guard⟩], some (2, true)⟩) (v := ?v24) rfl (by kernel_rfl) (by kernel_rfl) (by kernel_rfl) (fun _ _ _ h => h) (Or.inl ⟨by rfl, ?hy24⟩) (by assumption) ?r24
          case hy24 => (intro w hSw; (try dsimp only at hSw); go_simp; try with_reducible rfl)
          try simp only [Act.put, List.setIfInBounds_toArray, List.set_cons_zero, List.set_cons_succ]
          refine wpAnyH_take (i := 9) (oi := ⟨some 20, .move (.tmp 0), 24, "l05_drv.go:105", #[⟨2, .guard⟩], some (2, true)⟩) (v := ?v25) rfl (by kernel_rfl) (by kernel_rfl) (by kernel_rfl) (fun _ _ _ h => h) (Or.inl ⟨by rfl, ?hy25⟩) (by assumption) ?r25
          case hy25 => (intro w hSw; (try dsimp only at hSw); go_simp; try with_reducible rfl)
          try simp only [Act.put, List.setIfInBounds_toArray, List.set_cons_zero, List.set_cons_succ]
          refine wpAnyH_take (i := 10) (oi := ⟨some 21, .move (.tmp 5), 3, "l05_drv.go:105", #[⟨2, .guard⟩], some (2, true)⟩) (v := ?v26) rfl (by kernel_rfl) (by kernel_rfl) (by kernel_rfl) (fun _ _ _ h => h) (Or.inl ⟨by rfl, ?hy26⟩) (by assumption) ?r26
          case hy26 => (intro w hSw; (try dsimp only at hSw); go_simp; try with_reducible rfl)
          try simp only [Act.put, List.setIfInBounds_toArray, List.set_cons_zero, List.set_cons_succ]
          refine wpAnyH_take (i := 11) (oi := ⟨some 22, .indexAddr 24 (.tmp 20) (.tmp 21), 0, "l05_drv.go:105", #[⟨9, .data⟩, ⟨10, .data⟩, ⟨2, .guard⟩], some (2, true)⟩) (v := ?v27) rfl (by kernel_rfl) (by kernel_rfl) (by kernel_rfl) (fun _ _ _ h => h) (Or.inl ⟨by rfl, ?hy27⟩) (by assumption) ?r27
          case hy27 => (intro w hSw; (try dsimp only at hSw); go_simp; try with_reducible rfl)
          try simp only [Act.put, List.setIfInBounds_toArray, List.set_cons_zero, List.set_cons_succ]
          refine wpAnyH_take (i := 12) (oi := ⟨some 23, .load 38 (.tmp 22), 38, "l05_drv.go:105", #[⟨11, .data⟩, ⟨2, .guard⟩], some (2, true)⟩) (v := ?v28) rfl (by kernel_rfl) (by kernel_rfl) (by kernel_rfl) (fun _ _ _ h => h) (Or.inl ⟨by rfl, ?hy28⟩) (by assumption) ?r28
          case hy28 => (intro w hSw; (try dsimp only at hSw); go_simp; try with_reducible rfl)
          try simp only [Act.put, List.setIfInBounds_toArray, List.set_cons_zero, List.set_cons_succ]
          refine wpAnyH_ready (rs := [13]) (by kernel_rfl) (by simp) ?_
          refine AllReadyH.cons (o := ⟨some 24, .call { callee := .value (.tmp 14), args := #[.tmp 19, .tmp 23], argTypes := #[38, 38] }, 4, "l05_drv.go:105", #[⟨3, .data⟩, ⟨8, .data⟩, ⟨12, .data⟩, ⟨2, .chain⟩, ⟨2, .guard⟩], some (2, true)⟩) rfl (fun K hK => ?_) AllReadyH.nil
          go_simp
          (go_at_call 39; refine (HLE.out _).mono ?_; rintro e w2 ⟨rfl, hl2⟩; have hb2 : Below w.heap.size w w2 := HBE.out.drew.trans (hl2.mono HBE.out.size))
          try go_wp2_with fail
          refine hK.out _ _ (HCC.out _ hb2) (fun hHeld => ?_)
          clear hK K
          try simp only [Act.put, List.setIfInBounds_toArray, List.set_cons_zero, List.set_cons_succ]
          refine wpAnyH_take (i := 14) (oi := ⟨some 25, .unOp .not 4 (.tmp 24), 4, "l05_drv.go:105", #[⟨13, .data⟩, ⟨2, .guard⟩], some (2, true)⟩) (v := ?v29) rfl (by kernel_rfl) (by kernel_rfl) (by kernel_rfl) (fun _ _ _ h => h) (Or.inl ⟨by rfl, ?hy29⟩) (by assumption) ?r29
          case hy29 => (intro w hSw; (try dsimp only at hSw); go_simp; try with_reducible rfl)
          try simp only [Act.put, List.setIfInBounds_toArray, List.set_cons_zero, List.set_cons_succ]
          refine wpAnyH_take (i := 15) (oi := ⟨some 26, .pick (.tmp 13) (.tmp 25) (.const (.bool false)), 4, "l05_drv.go:105", #[⟨2, .data⟩, ⟨14, .data⟩], none⟩) (v := ?v30) rfl (by kernel_rfl) (by kernel_rfl) (by kernel_rfl) (fun _ _ _ h => h) (Or.inl ⟨by rfl, ?hy30⟩) (by assumption) ?r30
          case hy30 => (intro w hSw; (try dsimp only at hSw); go_simp; try with_reducible rfl)
          try simp only [Act.put, List.setIfInBounds_toArray, List.set_cons_zero, List.set_cons_succ]
          refine wpAnyH_done (by kernel_rfl) ?_ _
          go_wp2_with fail
          go_ret
          exact ⟨by rw [adjB_no HF.out]; first | done | rfl, hb2⟩
      · have hi1' : ¬ (0 : Int) < (i : Int) := by omega
        have HN : Hid (Adj E (i + 1)) := fun j hj => by omega
        clear hbel
        go_wp2_with fail
        refine wp_region_held_drew (S := fun _ => True) (by kernel_rfl) (trivial) (fun hHeld => ?_)
        refine wpAnyH_take (i := 0) (oi := ⟨some 11, .move (.tmp 5), 3, "l05_drv.go:105", #[], none⟩) (v := ?v31) rfl (by kernel_rfl) (by kernel_rfl) (by kernel_rfl) (fun _ _ _ h => h) (Or.inl ⟨by rfl, ?hy31⟩) (by assumption) ?r31
        case hy31 => (intro w hSw; (try dsimp only at hSw); go_simp; try with_reducible rfl)
        try simp only [Act.put, List.setIfInBounds_toArray, List.set_cons_zero, List.set_cons_succ]
        refine wpAnyH_take (i := 1) (oi := ⟨some 12, .binOp .gtr 3 (.tmp 11) (.const (.int .i64 0)) 3, 4, "l05_drv.go:105", #[⟨0, .data⟩], none⟩) (v := ?v32) rfl (by kernel_rfl) (by kernel_rfl) (by kernel_rfl) (fun _ _ _ h => h) (Or.inl ⟨by rfl, ?hy32⟩) (by assumption) ?r32
        case hy32 => (intro w hSw; (try dsimp only at hSw); go_simp; try with_reducible rfl)
        try simp only [Act.put, List.setIfInBounds_toArray, List.set_cons_zero, List.set_cons_succ]
        refine wpAnyH_take (i := 2) (oi := ⟨some 13, .move (.tmp 12), 4, "l05_drv.go:105", #[⟨1, .data⟩], none⟩) (v := ?v33) rfl (by kernel_rfl) (by kernel_rfl) (by kernel_rfl) (fun _ _ _ h => h) (Or.inl ⟨by rfl, ?hy33⟩) (by assumption) ?r33
        case hy33 => (intro w hSw; (try dsimp only at hSw); go_simp; try with_reducible rfl)
        try simp only [Act.put, List.setIfInBounds_toArray, List.set_cons_zero, List.set_cons_succ]
        refine wpAnyH_take (i := 3) (oi := ⟨some 14, .move (.tmp 1), 48, "l05_drv.go:105", #[⟨2, .guard⟩], some (2, true)⟩) (v := undef) rfl (by kernel_rfl) (by kernel_rfl) (by kernel_rfl) (fun _ _ _ h => h) (Or.inr ⟨by rfl, rfl⟩) (by assumption) ?_
        try simp only [Act.put, List.setIfInBounds_toArray, List.set_cons_zero, List.set_cons_succ]
        refine wpAnyH_take (i := 4) (oi := ⟨some 15, .move (.tmp 0), 24, "l05_drv.go:105", #[⟨2, .guard⟩], some (2, true)⟩) (v := undef) rfl (by kernel_rfl) (by kernel_rfl) (by kernel_rfl) (fun _ _ _ h => h) (Or.inr ⟨by rfl, rfl⟩) (by assumption) ?_
        try simp only [Act.put, List.setIfInBounds_toArray, List.set_cons_zero, List.set_cons_succ]
        refine wpAnyH_take (i := 5) (oi := ⟨some 16, .move (.tmp 5), 3, "l05_drv.go:105", #[⟨2, .guard⟩], some (2, true)⟩) (v := undef) rfl (by kernel_rfl) (by kernel_rfl) (by kernel_rfl) (fun _ _ _ h => h) (Or.inr ⟨by rfl, rfl⟩) (by assumption) ?_
        try simp only [Act.put, List.setIfInBounds_toArray, List.set_cons_zero, List.set_cons_succ]
        refine wpAnyH_take (i := 6) (oi := ⟨some 17, .binOp .sub 3 (.tmp 16) (.const (.int .i64 1)) 3, 3, "l05_drv.go:105", #[⟨5, .data⟩, ⟨2, .guard⟩], some (2, true)⟩) (v := undef) rfl (by kernel_rfl) (by kernel_rfl) (by kernel_rfl) (fun _ _ _ h => h) (Or.inr ⟨by rfl, rfl⟩) (by assumption) ?_
        try simp only [Act.put, List.setIfInBounds_toArray, List.set_cons_zero, List.set_cons_succ]
        refine wpAnyH_take (i := 7) (oi := ⟨some 18, .indexAddr 24 (.tmp 15) (.tmp 17), 0, "l05_drv.go:105", #[⟨4, .data⟩, ⟨6, .data⟩, ⟨2, .guard⟩], some (2, true)⟩) (v := undef) rfl (by kernel_rfl) (by kernel_rfl) (by kernel_rfl) (fun _ _ _ h => h) (Or.inr ⟨by rfl, rfl⟩) (by assumption) ?_
        try simp only [Act.put, List.setIfInBounds_toArray, List.set_cons_zero, List.set_cons_succ]
        refine wpAnyH_take (i := 8) (oi := ⟨some 19, .load 38 (.tmp 18), 38, "l05_drv.go:105", #[⟨7, .data⟩, ⟨2, .guard⟩], some (2, true)⟩) (v := undef) rfl (by kernel_rfl) (by kernel_rfl) (by kernel_rfl) (fun _ _ _ h => h) (Or.inr ⟨by rfl, rfl⟩) (by assumption) ?_
        try simp only [Act.put, List.setIfInBounds_toArray, List.set_cons_zero, List.set_cons_succ]
        refine wpAnyH_take (i := 9) (oi := ⟨some 20, .move (.tmp 0), 24, "l05_drv.go:105", #[⟨2, .guard⟩], some (2, true)⟩) (v := undef) rfl (by kernel_rfl) (by kernel_rfl) (by kernel_rfl) (fun _ _ _ h => h) (Or.inr ⟨by rfl, rfl⟩) (by assumption) ?_
        try simp only [Act.put, List.setIfInBounds_toArray, List.set_cons_zero, List.set_cons_succ]
        refine wpAnyH_take (i := 10) (oi := ⟨some 21, .move (.tmp 5), 3, "l05_drv.go:105", #[⟨2, .guard⟩], some (2, true)⟩) (v := undef) rfl (by kernel_rfl) (by kernel_rfl) (by kernel_rfl) (fun _ _ _ h => h) (Or.inr ⟨by rfl, rfl⟩) (by assumption) ?_
        try simp only [Act.put, List.setIfInBounds_toArray, List.set_cons_zero, List.set_cons_succ]
        refine wpAnyH_take (i := 11) (oi := ⟨some 22, .indexAddr 24 (.tmp 20) (.tmp 21), 0, "l05_drv.go:105", #[⟨9, .data⟩, ⟨10, .data⟩, ⟨2, .guard⟩], some (2, true)⟩) (v := undef) rfl (by kernel_rfl) (by kernel_rfl) (by kernel_rfl) (fun _ _ _ h => h) (Or.inr ⟨by rfl, rfl⟩) (by assumption) ?_
        try simp only [Act.put, List.setIfInBounds_toArray, List.set_cons_zero, List.set_cons_succ]
        refine wpAnyH_take (i := 12) (oi := ⟨some 23, .load 38 (.tmp 22), 38, "l05_drv.go:105", #[⟨11, .data⟩, ⟨2, .guard⟩], some (2, true)⟩) (v := undef) rfl (by kernel_rfl) (by kernel_rfl) (by kernel_rfl) (fun _ _ _ h => h) (Or.inr ⟨by rfl, rfl⟩) (by assumption) ?_
        try simp only [Act.put, List.setIfInBounds_toArray, List.set_cons_zero, List.set_cons_succ]
        refine wpAnyH_take (i := 13) (oi := ⟨some 24, .call { callee := .value (.tmp 14), args := #[.tmp 19, .tmp 23], argTypes := #[38, 38] }, 4, "l05_drv.go:105", #[⟨3, .data⟩, ⟨8, .data⟩, ⟨12, .data⟩, ⟨2, .chain⟩, ⟨2, .guard⟩], some (2, true)⟩) (v := undef) rfl (by kernel_rfl) (by kernel_rfl) (by kernel_rfl) (fun _ _ _ h => h) (Or.inr ⟨by rfl, rfl⟩) (by assumption) ?_
        try simp only [Act.put, List.setIfInBounds_toArray, List.set_cons_zero, List.set_cons_succ]
        refine wpAnyH_take (i := 14) (oi := ⟨some 25, .unOp .not 4 (.tmp 24), 4, "l05_drv.go:105", #[⟨13, .data⟩, ⟨2, .guard⟩], some (2, true)⟩) (v := undef) rfl (by kernel_rfl) (by kernel_rfl) (by kernel_rfl) (fun _ _ _ h => h) (Or.inr ⟨by rfl, rfl⟩) (by assumption) ?_
        try simp only [Act.put, List.setIfInBounds_toArray, List.set_cons_zero, List.set_cons_succ]
        refine wpAnyH_take (i := 15) (oi := ⟨some 26, .pick (.tmp 13) (.tmp 25) (.const (.bool false)), 4, "l05_drv.go:105", #[⟨2, .data⟩, ⟨14, .data⟩], none⟩) (v := ?v34) rfl (by kernel_rfl) (by kernel_rfl) (by kernel_rfl) (fun _ _ _ h => h) (Or.inl ⟨by rfl, ?hy34⟩) (by assumption) ?r34
        case hy34 => (intro w hSw; (try dsimp only at hSw); go_simp; try with_reducible rfl)
        try simp only [Act.put, List.setIfInBounds_toArray, List.set_cons_zero, List.set_cons_succ]
        refine wpAnyH_done (by kernel_rfl) ?_ _
        go_wp2_with fail
        go_roundw
        case rel => exact ⟨i + 1, by omega, by go_num, HN.out, HBE.out.drew⟩
        case measure => simp [intOf] <;> omega
    · have hil' : ¬ (i : Int) < (n : Int) := by omega
      obtain rfl : i = n := by omega
      clear hbel
      go_wp2
      go_ret
      exact ⟨by rw [adjB_yes HAD.out]; first | done | rfl, HBE.out⟩

end Go.Proofs.YtjjndaiojilhiaaDoor.tt
