import Derived.Test.YtaoimkjcaienbaaGreatDoorG17
namespace Go.Proofs.YtaoimkjcaienbaaGreatDoor.up
open Go.ChangeShapes Go.WideShapes Go.ChangeAt Go.RowKit Go.Deep
set_option linter.unusedVariables false
set_option linter.unusedSimpArgs false
variable {C : Nat}

/-! ### Bytes that are unpacked: the specification's texts -/

/-- What a text leaves. -/
def StR (C : Nat) (w w' : World) (p b : Nat) (l : List UInt8) (i : Nat) (bad : Bool) (e : Ending) : Prop := ∃ (S : ByteArray) (i' : Nat) (bad' : Bool), e = .returned (.string S) ∧ S.size ≤ l.length ∧ i ≤ i' ∧ Sr C w' p b l.length i' bad' ∧ (bad = true → bad' = true) ∧ w.grownBy w' (some p) ∧ ∀ T tail, l.drop i = bf.num T.length ++ T ++ tail → T.length ≤ 1048576 → bad = false → S.data.toList = T ∧ l.drop i' = tail ∧ bad' = false

set_option maxRecDepth 100000 in
set_option maxHeartbeats 2000000 in
theorem rtext_any (b p i : Nat) (bad : Bool) (l : List UInt8) (hbp : b ≠ p) (hN : l.length ≤ 1048576) (hC : l.length ≤ C) (hCm : C ≤ 9223372036854775807) (w : World) (h : Sr C w p b l.length i bad) (hB : By w b l) :
    Calls Tryz.prog 47 #[.pointer (some ⟨p, 0, none⟩)] w fun e w' => StR C w w' p b l i bad e := by
  have HBY : Hid (∀ W, w.grownBy W (some p) → By W b l) := fun W hW => hB.grown hW hbp
  have HRD : Hid (Calls Tryz.prog 46 #[.pointer (some ⟨p, 0, none⟩)] w fun e w' => SnR C w w' p b l i bad e) := read_any b p i bad l hbp hN w h hB
  clear h hB
  go_enter Tryz.func47, Tryz.ntmps47
  go_wp2_with (go_at_call 46; refine HRD.out.mono ?_; rintro e w1 ⟨m, i1, bad1, rfl, hm, hi1, hsr, hbb, hg1, hp1⟩; have HP1 : Hid (∀ x tail, l.drop i = bf.num x ++ tail → x ≤ 1048576 → m = x ∧ l.drop i1 = tail ∧ bad1 = bad) := hp1; clear hp1; refine Hid.out ?_)
  refine Lib.hid ?_
  have HSR : Hid (Sr C w1 p b l.length i1 bad1) := hsr
  have HG1 : Hid (w.grownBy w1 (some p)) := hg1
  have HBB : Hid (bad = true → bad1 = true) := hbb
  obtain ⟨c0, c1, c2, fz, hle⟩ := hsr
  obtain ⟨N, hNN⟩ : ∃ N, N = l.length := ⟨_, rfl⟩
  rw [← hNN] at c0 hle
  have HNN : Hid (N = l.length) := hNN
  have hN2 : N ≤ 1048576 := by omega
  have hNC : N ≤ C := by omega
  have fz1 := fz 1
  have fz2 := fz 2
  clear fz hg1 hbb hNN
  cases bad1 with
  | true =>
    have HR : Hid (StR C w (w1.drew.setCell ⟨p, 2, none⟩ (.bool true)) p b l i bad (.returned (.string ⟨#[]⟩))) := by
      refine ⟨⟨#[]⟩, i1, true, rfl, Nat.zero_le _, hi1, HSR.out.drew.setBad, fun _ => rfl, grown_set (grown_drew HG1.out) _ _, fun T tail hx hT hbf => ?_⟩
      rw [List.append_assoc] at hx
      have := (HP1.out T.length _ hx hT).2.2
      rw [hbf] at this
      cases this
    go_wp2_with fail
    refine wp_region_held_drew (S := fun w' => w'.cell? ⟨p, 0, none⟩ = some (.slice (some ⟨b, 0, none⟩) N C) ∧ w'.cell? ⟨p, 1, none⟩ = some (.int .i64 (i1 : Int)) ∧ w'.cell? ⟨p, 2, none⟩ = some (.bool true)) (by kernel_rfl) (⟨c0, c1, c2⟩) (fun hHeld => ?_)
    refine wpAnyH_take (i := 0) (oi := ⟨some 6, .move (.tmp 0), 72, "l10_tree.go:230", #[], none⟩) (v := ?v1) rfl (by kernel_rfl) (by kernel_rfl) (by kernel_rfl) (fun _ _ _ h => h) (Or.inl ⟨by rfl, ?hy1⟩) (by assumption) ?r1
    case hy1 => (intro w hSw; (try dsimp only at hSw); go_simp; try with_reducible rfl)
    try simp only [Act.put, List.setIfInBounds_toArray, List.set_cons_zero, List.set_cons_succ]
    refine wpAnyH_take (i := 1) (oi := ⟨some 7, .nilCheck (.tmp 6), 0, "l10_tree.go:230", #[⟨0, .data⟩], none⟩) (v := ?v2) rfl (by kernel_rfl) (by kernel_rfl) (by kernel_rfl) (fun _ _ _ h => h) (Or.inl ⟨by rfl, ?hy2⟩) (by assumption) ?r2
    case hy2 => (intro w hSw; (try dsimp only at hSw); go_simp; try with_reducible rfl)
    try simp only [Act.put, List.setIfInBounds_toArray, List.set_cons_zero, List.set_cons_succ]
    refine wpAnyH_take (i := 2) (oi := ⟨some 8, .fieldAddr 74 (.tmp 7) 2, 0, "l10_tree.go:230", #[⟨1, .data⟩], none⟩) (v := ?v3) rfl (by kernel_rfl) (by kernel_rfl) (by kernel_rfl) (fun _ _ _ h => h) (Or.inl ⟨by rfl, ?hy3⟩) (by assumption) ?r3
    case hy3 => (intro w hSw; (try dsimp only at hSw); go_simp; try with_reducible rfl)
    try simp only [Act.put, List.setIfInBounds_toArray, List.set_cons_zero, List.set_cons_succ]
    refine wpAnyH_take (i := 3) (oi := ⟨some 9, .load 4 (.tmp 8), 4, "l10_tree.go:230", #[⟨2, .data⟩], none⟩) (v := ?v4) rfl (by kernel_rfl) (by kernel_rfl) (by kernel_rfl) (fun _ _ _ h => h) (Or.inl ⟨by rfl, ?hy4⟩) (by assumption) ?r4
    case hy4 => (intro w hSw; (try dsimp only at hSw); go_simp; try with_reducible rfl)
    try simp only [Act.put, List.setIfInBounds_toArray, List.set_cons_zero, List.set_cons_succ]
    refine wpAnyH_take (i := 4) (oi := ⟨some 10, .move (.tmp 9), 4, "l10_tree.go:230", #[⟨3, .data⟩], none⟩) (v := ?v5) rfl (by kernel_rfl) (by kernel_rfl) (by kernel_rfl) (fun _ _ _ h => h) (Or.inl ⟨by rfl, ?hy5⟩) (by assumption) ?r5
    case hy5 => (intro w hSw; (try dsimp only at hSw); go_simp; try with_reducible rfl)
    try simp only [Act.put, List.setIfInBounds_toArray, List.set_cons_zero, List.set_cons_succ]
    refine wpAnyH_take (i := 5) (oi := ⟨some 11, .move (.tmp 3), 3, "l10_tree.go:230", #[⟨4, .guard⟩], some (4, false)⟩) (v := undef) rfl (by kernel_rfl) (by kernel_rfl) (by kernel_rfl) (fun _ _ _ h => h) (Or.inr ⟨by rfl, rfl⟩) (by assumption) ?_
    try simp only [Act.put, List.setIfInBounds_toArray, List.set_cons_zero, List.set_cons_succ]
    refine wpAnyH_take (i := 6) (oi := ⟨some 12, .move (.tmp 0), 72, "l10_tree.go:230", #[⟨4, .guard⟩], some (4, false)⟩) (v := undef) rfl (by kernel_rfl) (by kernel_rfl) (by kernel_rfl) (fun _ _ _ h => h) (Or.inr ⟨by rfl, rfl⟩) (by assumption) ?_
    try simp only [Act.put, List.setIfInBounds_toArray, List.set_cons_zero, List.set_cons_succ]
    refine wpAnyH_take (i := 7) (oi := ⟨some 13, .nilCheck (.tmp 12), 0, "l10_tree.go:230", #[⟨6, .data⟩, ⟨4, .guard⟩], some (4, false)⟩) (v := undef) rfl (by kernel_rfl) (by kernel_rfl) (by kernel_rfl) (fun _ _ _ h => h) (Or.inr ⟨by rfl, rfl⟩) (by assumption) ?_
    try simp only [Act.put, List.setIfInBounds_toArray, List.set_cons_zero, List.set_cons_succ]
    refine wpAnyH_take (i := 8) (oi := ⟨some 14, .fieldAddr 74 (.tmp 13) 0, 0, "l10_tree.go:230", #[⟨7, .data⟩, ⟨4, .guard⟩], some (4, false)⟩) (v := undef) rfl (by kernel_rfl) (by kernel_rfl) (by kernel_rfl) (fun _ _ _ h => h) (Or.inr ⟨by rfl, rfl⟩) (by assumption) ?_
    try simp only [Act.put, List.setIfInBounds_toArray, List.set_cons_zero, List.set_cons_succ]
    refine wpAnyH_take (i := 9) (oi := ⟨some 15, .load 22 (.tmp 14), 22, "l10_tree.go:230", #[⟨8, .data⟩, ⟨4, .guard⟩], some (4, false)⟩) (v := undef) rfl (by kernel_rfl) (by kernel_rfl) (by kernel_rfl) (fun _ _ _ h => h) (Or.inr ⟨by rfl, rfl⟩) (by assumption) ?_
    try simp only [Act.put, List.setIfInBounds_toArray, List.set_cons_zero, List.set_cons_succ]
    refine wpAnyH_take (i := 10) (oi := ⟨some 16, .call { callee := .builtin .len, args := #[.tmp 15], argTypes := #[22] }, 3, "l10_tree.go:230", #[⟨9, .data⟩, ⟨4, .guard⟩], some (4, false)⟩) (v := undef) rfl (by kernel_rfl) (by kernel_rfl) (by kernel_rfl) (fun _ _ _ h => h) (Or.inr ⟨by rfl, rfl⟩) (by assumption) ?_
    try simp only [Act.put, List.setIfInBounds_toArray, List.set_cons_zero, List.set_cons_succ]
    refine wpAnyH_take (i := 11) (oi := ⟨some 17, .move (.tmp 0), 72, "l10_tree.go:230", #[⟨4, .guard⟩], some (4, false)⟩) (v := undef) rfl (by kernel_rfl) (by kernel_rfl) (by kernel_rfl) (fun _ _ _ h => h) (Or.inr ⟨by rfl, rfl⟩) (by assumption) ?_
    try simp only [Act.put, List.setIfInBounds_toArray, List.set_cons_zero, List.set_cons_succ]
    refine wpAnyH_take (i := 12) (oi := ⟨some 18, .nilCheck (.tmp 17), 0, "l10_tree.go:230", #[⟨11, .data⟩, ⟨4, .guard⟩], some (4, false)⟩) (v := undef) rfl (by kernel_rfl) (by kernel_rfl) (by kernel_rfl) (fun _ _ _ h => h) (Or.inr ⟨by rfl, rfl⟩) (by assumption) ?_
    try simp only [Act.put, List.setIfInBounds_toArray, List.set_cons_zero, List.set_cons_succ]
    refine wpAnyH_take (i := 13) (oi := ⟨some 19, .fieldAddr 74 (.tmp 18) 1, 0, "l10_tree.go:230", #[⟨12, .data⟩, ⟨4, .guard⟩], some (4, false)⟩) (v := undef) rfl (by kernel_rfl) (by kernel_rfl) (by kernel_rfl) (fun _ _ _ h => h) (Or.inr ⟨by rfl, rfl⟩) (by assumption) ?_
    try simp only [Act.put, List.setIfInBounds_toArray, List.set_cons_zero, List.set_cons_succ]
    refine wpAnyH_take (i := 14) (oi := ⟨some 20, .load 3 (.tmp 19), 3, "l10_tree.go:230", #[⟨13, .data⟩, ⟨4, .guard⟩], some (4, false)⟩) (v := undef) rfl (by kernel_rfl) (by kernel_rfl) (by kernel_rfl) (fun _ _ _ h => h) (Or.inr ⟨by rfl, rfl⟩) (by assumption) ?_
    try simp only [Act.put, List.setIfInBounds_toArray, List.set_cons_zero, List.set_cons_succ]
    refine wpAnyH_take (i := 15) (oi := ⟨some 21, .binOp .sub 3 (.tmp 16) (.tmp 20) 3, 3, "l10_tree.go:230", #[⟨10, .data⟩, ⟨14, .data⟩, ⟨4, .guard⟩], some (4, false)⟩) (v := undef) rfl (by kernel_rfl) (by kernel_rfl) (by kernel_rfl) (fun _ _ _ h => h) (Or.inr ⟨by rfl, rfl⟩) (by assumption) ?_
    try simp only [Act.put, List.setIfInBounds_toArray, List.set_cons_zero, List.set_cons_succ]
    refine wpAnyH_take (i := 16) (oi := ⟨some 22, .binOp .gtr 3 (.tmp 11) (.tmp 21) 3, 4, "l10_tree.go:230", #[⟨5, .data⟩, ⟨15, .data⟩, ⟨4, .guard⟩], some (4, false)⟩) (v := undef) rfl (by kernel_rfl) (by kernel_rfl) (by kernel_rfl) (fun _ _ _ h => h) (Or.inr ⟨by rfl, rfl⟩) (by assumption) ?_
    try simp only [Act.put, List.setIfInBounds_toArray, List.set_cons_zero, List.set_cons_succ]
    refine wpAnyH_take (i := 17) (oi := ⟨some 23, .pick (.tmp 10) (.const (.bool true)) (.tmp 22), 4, "l10_tree.go:230", #[⟨4, .data⟩, ⟨16, .data⟩], none⟩) (v := ?v6) rfl (by kernel_rfl) (by kernel_rfl) (by kernel_rfl) (fun _ _ _ h => h) (Or.inl ⟨by rfl, ?hy6⟩) (by assumption) ?r6
    case hy6 => (intro w hSw; (try dsimp only at hSw); go_simp; try with_reducible rfl)
    try simp only [Act.put, List.setIfInBounds_toArray, List.set_cons_zero, List.set_cons_succ]
    refine wpAnyH_done (by kernel_rfl) ?_ _
    go_wp2
    go_ret
    exact HR.out
  | false =>
    have hwr : IntKind.i64.wrap ((N : Int) - (i1 : Int)) = (N : Int) - (i1 : Int) := by rw [IntKind.wrap_i64]; omega
    by_cases hbig : N - i1 < m
    · have hbig' : (N : Int) - (i1 : Int) < (m : Int) := by omega
      have HR : Hid (StR C w (w1.drew.setCell ⟨p, 2, none⟩ (.bool true)) p b l i bad (.returned (.string ⟨#[]⟩))) := by
        refine ⟨⟨#[]⟩, i1, true, rfl, Nat.zero_le _, hi1, HSR.out.drew.setBad, fun _ => rfl, grown_set (grown_drew HG1.out) _ _, fun T tail hx hT hbf => ?_⟩
        rw [List.append_assoc] at hx
        obtain ⟨e1, e2, _⟩ := HP1.out T.length _ hx hT
        have hlen := congrArg List.length e2
        rw [List.length_drop, List.length_append, ← HNN.out] at hlen
        omega
      go_wp2_with fail
      refine wp_region_held_drew (S := fun w' => w'.cell? ⟨p, 0, none⟩ = some (.slice (some ⟨b, 0, none⟩) N C) ∧ w'.cell? ⟨p, 1, none⟩ = some (.int .i64 (i1 : Int)) ∧ w'.cell? ⟨p, 2, none⟩ = some (.bool false)) (by kernel_rfl) (⟨c0, c1, c2⟩) (fun hHeld => ?_)
      refine wpAnyH_take (i := 0) (oi := ⟨some 6, .move (.tmp 0), 72, "l10_tree.go:230", #[], none⟩) (v := ?v77) rfl (by kernel_rfl) (by kernel_rfl) (by kernel_rfl) (fun _ _ _ h => h) (Or.inl ⟨by rfl, ?hy77⟩) (by assumption) ?r77
      case hy77 => (intro w hSw; (try dsimp only at hSw); go_simp; try with_reducible rfl)
      try simp only [Act.put, List.setIfInBounds_toArray, List.set_cons_zero, List.set_cons_succ]
      refine wpAnyH_take (i := 1) (oi := ⟨some 7, .nilCheck (.tmp 6), 0, "l10_tree.go:230", #[⟨0, .data⟩], none⟩) (v := ?v78) rfl (by kernel_rfl) (by kernel_rfl) (by kernel_rfl) (fun _ _ _ h => h) (Or.inl ⟨by rfl, ?hy78⟩) (by assumption) ?r78
      case hy78 => (intro w hSw; (try dsimp only at hSw); go_simp; try with_reducible rfl)
      try simp only [Act.put, List.setIfInBounds_toArray, List.set_cons_zero, List.set_cons_succ]
      refine wpAnyH_take (i := 2) (oi := ⟨some 8, .fieldAddr 74 (.tmp 7) 2, 0, "l10_tree.go:230", #[⟨1, .data⟩], none⟩) (v := ?v79) rfl (by kernel_rfl) (by kernel_rfl) (by kernel_rfl) (fun _ _ _ h => h) (Or.inl ⟨by rfl, ?hy79⟩) (by assumption) ?r79
      case hy79 => (intro w hSw; (try dsimp only at hSw); go_simp; try with_reducible rfl)
      try simp only [Act.put, List.setIfInBounds_toArray, List.set_cons_zero, List.set_cons_succ]
      refine wpAnyH_take (i := 3) (oi := ⟨some 9, .load 4 (.tmp 8), 4, "l10_tree.go:230", #[⟨2, .data⟩], none⟩) (v := ?v80) rfl (by kernel_rfl) (by kernel_rfl) (by kernel_rfl) (fun _ _ _ h => h) (Or.inl ⟨by rfl, ?hy80⟩) (by assumption) ?r80
      case hy80 => (intro w hSw; (try dsimp only at hSw); go_simp; try with_reducible rfl)
      try simp only [Act.put, List.setIfInBounds_toArray, List.set_cons_zero, List.set_cons_succ]
      refine wpAnyH_take (i := 4) (oi := ⟨some 10, .move (.tmp 9), 4, "l10_tree.go:230", #[⟨3, .data⟩], none⟩) (v := ?v81) rfl (by kernel_rfl) (by kernel_rfl) (by kernel_rfl) (fun _ _ _ h => h) (Or.inl ⟨by rfl, ?hy81⟩) (by assumption) ?r81
      case hy81 => (intro w hSw; (try dsimp only at hSw); go_simp; try with_reducible rfl)
      try simp only [Act.put, List.setIfInBounds_toArray, List.set_cons_zero, List.set_cons_succ]
      refine wpAnyH_take (i := 5) (oi := ⟨some 11, .move (.tmp 3), 3, "l10_tree.go:230", #[⟨4, .guard⟩], some (4, false)⟩) (v := ?v82) rfl (by kernel_rfl) (by kernel_rfl) (by kernel_rfl) (fun _ _ _ h => h) (Or.inl ⟨by rfl, ?hy82⟩) (by assumption) ?r82
      case hy82 => (intro w hSw; (try dsimp only at hSw); go_simp; try with_reducible rfl)
      try simp only [Act.put, List.setIfInBounds_toArray, List.set_cons_zero, List.set_cons_succ]
      refine wpAnyH_take (i := 6) (oi := ⟨some 12, .move (.tmp 0), 72, "l10_tree.go:230", #[⟨4, .guard⟩], some (4, false)⟩) (v := ?v83) rfl (by kernel_rfl) (by kernel_rfl) (by kernel_rfl) (fun _ _ _ h => h) (Or.inl ⟨by rfl, ?hy83⟩) (by assumption) ?r83
      case hy83 => (intro w hSw; (try dsimp only at hSw); go_simp; try with_reducible rfl)
      try simp only [Act.put, List.setIfInBounds_toArray, List.set_cons_zero, List.set_cons_succ]
      refine wpAnyH_take (i := 7) (oi := ⟨some 13, .nilCheck (.tmp 12), 0, "l10_tree.go:230", #[⟨6, .data⟩, ⟨4, .guard⟩], some (4, false)⟩) (v := ?v84) rfl (by kernel_rfl) (by kernel_rfl) (by kernel_rfl) (fun _ _ _ h => h) (Or.inl ⟨by rfl, ?hy84⟩) (by assumption) ?r84
      case hy84 => (intro w hSw; (try dsimp only at hSw); go_simp; try with_reducible rfl)
      try simp only [Act.put, List.setIfInBounds_toArray, List.set_cons_zero, List.set_cons_succ]
      refine wpAnyH_take (i := 8) (oi := ⟨some 14, .fieldAddr 74 (.tmp 13) 0, 0, "l10_tree.go:230", #[⟨7, .data⟩, ⟨4, .guard⟩], some (4, false)⟩) (v := ?v85) rfl (by kernel_rfl) (by kernel_rfl) (by kernel_rfl) (fun _ _ _ h => h) (Or.inl ⟨by rfl, ?hy85⟩) (by assumption) ?r85
      case hy85 => (intro w hSw; (try dsimp only at hSw); go_simp; try with_reducible rfl)
      try simp only [Act.put, List.setIfInBounds_toArray, List.set_cons_zero, List.set_cons_succ]
      refine wpAnyH_take (i := 9) (oi := ⟨some 15, .load 22 (.tmp 14), 22, "l10_tree.go:230", #[⟨8, .data⟩, ⟨4, .guard⟩], some (4, false)⟩) (v := ?v86) rfl (by kernel_rfl) (by kernel_rfl) (by kernel_rfl) (fun _ _ _ h => h) (Or.inl ⟨by rfl, ?hy86⟩) (by assumption) ?r86
      case hy86 => (intro w hSw; (try dsimp only at hSw); go_simp; try with_reducible rfl)
      try simp only [Act.put, List.setIfInBounds_toArray, List.set_cons_zero, List.set_cons_succ]
      refine wpAnyH_take (i := 10) (oi := ⟨some 16, .call { callee := .builtin .len, args := #[.tmp 15], argTypes := #[22] }, 3, "l10_tree.go:230", #[⟨9, .data⟩, ⟨4, .guard⟩], some (4, false)⟩) (v := ?v87) rfl (by kernel_rfl) (by kernel_rfl) (by kernel_rfl) (fun _ _ _ h => h) (Or.inl ⟨by rfl, ?hy87⟩) (by assumption) ?r87
      case hy87 => (intro w hSw; (try dsimp only at hSw); go_simp; try with_reducible rfl)
      try simp only [Act.put, List.setIfInBounds_toArray, List.set_cons_zero, List.set_cons_succ]
      refine wpAnyH_take (i := 11) (oi := ⟨some 17, .move (.tmp 0), 72, "l10_tree.go:230", #[⟨4, .guard⟩], some (4, false)⟩) (v := ?v88) rfl (by kernel_rfl) (by kernel_rfl) (by kernel_rfl) (fun _ _ _ h => h) (Or.inl ⟨by rfl, ?hy88⟩) (by assumption) ?r88
      case hy88 => (intro w hSw; (try dsimp only at hSw); go_simp; try with_reducible rfl)
      try simp only [Act.put, List.setIfInBounds_toArray, List.set_cons_zero, List.set_cons_succ]
      refine wpAnyH_take (i := 12) (oi := ⟨some 18, .nilCheck (.tmp 17), 0, "l10_tree.go:230", #[⟨11, .data⟩, ⟨4, .guard⟩], some (4, false)⟩) (v := ?v89) rfl (by kernel_rfl) (by kernel_rfl) (by kernel_rfl) (fun _ _ _ h => h) (Or.inl ⟨by rfl, ?hy89⟩) (by assumption) ?r89
      case hy89 => (intro w hSw; (try dsimp only at hSw); go_simp; try with_reducible rfl)
      try simp only [Act.put, List.setIfInBounds_toArray, List.set_cons_zero, List.set_cons_succ]
      refine wpAnyH_take (i := 13) (oi := ⟨some 19, .fieldAddr 74 (.tmp 18) 1, 0, "l10_tree.go:230", #[⟨12, .data⟩, ⟨4, .guard⟩], some (4, false)⟩) (v := ?v90) rfl (by kernel_rfl) (by kernel_rfl) (by kernel_rfl) (fun _ _ _ h => h) (Or.inl ⟨by rfl, ?hy90⟩) (by assumption) ?r90
      case hy90 => (intro w hSw; (try dsimp only at hSw); go_simp; try with_reducible rfl)
      try simp only [Act.put, List.setIfInBounds_toArray, List.set_cons_zero, List.set_cons_succ]
      refine wpAnyH_take (i := 14) (oi := ⟨some 20, .load 3 (.tmp 19), 3, "l10_tree.go:230", #[⟨13, .data⟩, ⟨4, .guard⟩], some (4, false)⟩) (v := ?v91) rfl (by kernel_rfl) (by kernel_rfl) (by kernel_rfl) (fun _ _ _ h => h) (Or.inl ⟨by rfl, ?hy91⟩) (by assumption) ?r91
      case hy91 => (intro w hSw; (try dsimp only at hSw); go_simp; try with_reducible rfl)
      try simp only [Act.put, List.setIfInBounds_toArray, List.set_cons_zero, List.set_cons_succ]
      refine wpAnyH_take (i := 15) (oi := ⟨some 21, .binOp .sub 3 (.tmp 16) (.tmp 20) 3, 3, "l10_tree.go:230", #[⟨10, .data⟩, ⟨14, .data⟩, ⟨4, .guard⟩], some (4, false)⟩) (v := ?v92) rfl (by kernel_rfl) (by kernel_rfl) (by kernel_rfl) (fun _ _ _ h => h) (Or.inl ⟨by rfl, ?hy92⟩) (by assumption) ?r92
      case hy92 => (intro w hSw; (try dsimp only at hSw); go_simp; try with_reducible rfl)
      try simp only [Act.put, List.setIfInBounds_toArray, List.set_cons_zero, List.set_cons_succ]
      refine wpAnyH_take (i := 16) (oi := ⟨some 22, .binOp .gtr 3 (.tmp 11) (.tmp 21) 3, 4, "l10_tree.go:230", #[⟨5, .data⟩, ⟨15, .data⟩, ⟨4, .guard⟩], some (4, false)⟩) (v := ?v93) rfl (by kernel_rfl) (by kernel_rfl) (by kernel_rfl) (fun _ _ _ h => h) (Or.inl ⟨by rfl, ?hy93⟩) (by assumption) ?r93
      case hy93 => (intro w hSw; (try dsimp only at hSw); go_simp; try with_reducible rfl)
      try simp only [Act.put, List.setIfInBounds_toArray, List.set_cons_zero, List.set_cons_succ]
      refine wpAnyH_take (i := 17) (oi := ⟨some 23, .pick (.tmp 10) (.const (.bool true)) (.tmp 22), 4, "l10_tree.go:230", #[⟨4, .data⟩, ⟨16, .data⟩], none⟩) (v := ?v94) rfl (by kernel_rfl) (by kernel_rfl) (by kernel_rfl) (fun _ _ _ h => h) (Or.inl ⟨by rfl, ?hy94⟩) (by assumption) ?r94
      case hy94 => (intro w hSw; (try dsimp only at hSw); go_simp; try with_reducible rfl)
      try simp only [Act.put, List.setIfInBounds_toArray, List.set_cons_zero, List.set_cons_succ]
      refine wpAnyH_done (by kernel_rfl) ?_ _
      go_wp2
      go_ret
      exact HR.out
    · have hbig' : ¬ (N : Int) - (i1 : Int) < (m : Int) := by omega
      obtain ⟨X, hX⟩ : ∃ X : ByteArray, X = ⟨((l.drop i1).take m).toArray⟩ := ⟨_, rfl⟩
      have hXs : X.size = m := by
        rw [hX]
        show (((l.drop i1).take m).toArray).size = m
        rw [List.size_toArray, List.length_take, List.length_drop, ← HNN.out]
        omega
      have HBX : Hid (∀ W, w.grownBy W (some p) → ∀ o, (i1 < N → o = i1) → Lib.Bytes W b o X) := fun W hG o ho j hj => by
        have hlt : i1 + j < l.length := by rw [← HNN.out]; omega
        have hoi : o = i1 := ho (by omega)
        have e1 := HBY.out W hG (i1 + j) hlt
        rw [hoi, e1]
        congr 2
        have : X[j] = l[i1 + j] := by
          subst hX
          show (((l.drop i1).take m).toArray)[j] = _
          simp
        rw [this]
      have hcv : ∀ (W : World) (o cc : Nat), Lib.Bytes W b o X → (convert 22 9 (.slice (some ⟨b, o, none⟩) m cc)).run Tryz.prog W = .ok (.string X) W := fun W o cc hW => by
        have := Lib.run_convert_whole (P := Tryz.prog) W 22 5 9 Tryz.underlying22 Tryz.underlying5 Tryz.underlying9 b o X hW cc
        rwa [hXs] at this
      have HSI : Hid (Sr C (w1.setCell ⟨p, 1, none⟩ (.int .i64 ((i1 : Int) + (m : Int)))).drew.drew p b l.length (i1 + m) false) := by
        have := HSR.out.setI (j := i1 + m) (by rw [← HNN.out]; omega)
        rw [show ((i1 + m : Nat) : Int) = (i1 : Int) + (m : Int) by omega] at this
        exact this.drew.drew
      have HGI : Hid (w.grownBy (w1.setCell ⟨p, 1, none⟩ (.int .i64 ((i1 : Int) + (m : Int)))).drew.drew (some p)) := grown_drew (grown_drew (grown_set HG1.out _ _))
      have HR : Hid (StR C w (w1.setCell ⟨p, 1, none⟩ (.int .i64 ((i1 : Int) + (m : Int)))).drew.drew p b l i bad (.returned (.string X))) := by
        refine ⟨X, i1 + m, false, rfl, by rw [hXs, ← HNN.out]; omega, by omega, HSI.out, fun h => HBB.out h, HGI.out, fun T tail hx hT hbf => ?_⟩
        rw [List.append_assoc] at hx
        obtain ⟨e1, e2, _⟩ := HP1.out T.length _ hx hT
        refine ⟨?_, ?_, rfl⟩
        · rw [hX, e2, e1, List.take_left]
        · rw [← List.drop_drop, e2, e1, List.drop_left]
      clear hX
      by_cases hiN : i1 < C
      · have HS6 : Hid ((w1.setCell ⟨p, 1, none⟩ (.int .i64 ((i1 : Int) + (m : Int)))).drew.drew.cell? ⟨p, 0, none⟩ = some (.slice (some ⟨b, 0, none⟩) N C) ∧ (w1.setCell ⟨p, 1, none⟩ (.int .i64 ((i1 : Int) + (m : Int)))).drew.drew.cell? ⟨p, 1, none⟩ = some (.int .i64 ((i1 : Int) + (m : Int))) ∧ Lib.Bytes (w1.setCell ⟨p, 1, none⟩ (.int .i64 ((i1 : Int) + (m : Int)))).drew.drew b i1 X) := ⟨by rw [HNN.out]; exact HSI.out.c0, by have := HSI.out.c1; rwa [show ((i1 + m : Nat) : Int) = (i1 : Int) + (m : Int) by omega] at this, HBX.out _ HGI.out i1 (fun _ => rfl)⟩
        have hs1 : (i1 : Int) ≤ (N : Int) := by omega
        have hs2 : (i1 : Int) + (m : Int) ≤ (N : Int) := by omega
        have hne : ¬ C = i1 := by omega
        have hs3 : (i1 : Int) + (m : Int) ≤ (C : Int) := by omega
        have hs4 : (i1 : Int) ≤ (C : Int) := by omega
        have hwi : IntKind.i64.wrap (i1 : Int) = (i1 : Int) := by rw [IntKind.wrap_i64]; omega
        have h00 : (0 : Int) ≤ (i1 : Int) + (m : Int) := by omega
        have hmx : max ((i1 : Int) + (m : Int)) 0 = (i1 : Int) + (m : Int) := by omega
        have hlm : (i1 : Int) ≤ (i1 : Int) + (m : Int) := by omega
        have htn : ((i1 : Int) + (m : Int)).toNat = i1 + m := by omega
        have htm : i1 + m - i1 = m := by omega
        have hw2 : IntKind.i64.wrap ((i1 : Int) + (m : Int)) = (i1 : Int) + (m : Int) := by rw [IntKind.wrap_i64]; omega
        go_wp2_with fail
        refine wp_region_held_drew (S := fun w' => w'.cell? ⟨p, 0, none⟩ = some (.slice (some ⟨b, 0, none⟩) N C) ∧ w'.cell? ⟨p, 1, none⟩ = some (.int .i64 (i1 : Int)) ∧ w'.cell? ⟨p, 2, none⟩ = some (.bool false)) (by kernel_rfl) (⟨c0, c1, c2⟩) (fun hHeld => ?_)
        refine wpAnyH_take (i := 0) (oi := ⟨some 6, .move (.tmp 0), 72, "l10_tree.go:230", #[], none⟩) (v := ?v59) rfl (by kernel_rfl) (by kernel_rfl) (by kernel_rfl) (fun _ _ _ h => h) (Or.inl ⟨by rfl, ?hy59⟩) (by assumption) ?r59
        case hy59 => (intro w hSw; (try dsimp only at hSw); go_simp; try with_reducible rfl)
        try simp only [Act.put, List.setIfInBounds_toArray, List.set_cons_zero, List.set_cons_succ]
        refine wpAnyH_take (i := 1) (oi := ⟨some 7, .nilCheck (.tmp 6), 0, "l10_tree.go:230", #[⟨0, .data⟩], none⟩) (v := ?v60) rfl (by kernel_rfl) (by kernel_rfl) (by kernel_rfl) (fun _ _ _ h => h) (Or.inl ⟨by rfl, ?hy60⟩) (by assumption) ?r60
        case hy60 => (intro w hSw; (try dsimp only at hSw); go_simp; try with_reducible rfl)
        try simp only [Act.put, List.setIfInBounds_toArray, List.set_cons_zero, List.set_cons_succ]
        refine wpAnyH_take (i := 2) (oi := ⟨some 8, .fieldAddr 74 (.tmp 7) 2, 0, "l10_tree.go:230", #[⟨1, .data⟩], none⟩) (v := ?v61) rfl (by kernel_rfl) (by kernel_rfl) (by kernel_rfl) (fun _ _ _ h => h) (Or.inl ⟨by rfl, ?hy61⟩) (by assumption) ?r61
        case hy61 => (intro w hSw; (try dsimp only at hSw); go_simp; try with_reducible rfl)
        try simp only [Act.put, List.setIfInBounds_toArray, List.set_cons_zero, List.set_cons_succ]
        refine wpAnyH_take (i := 3) (oi := ⟨some 9, .load 4 (.tmp 8), 4, "l10_tree.go:230", #[⟨2, .data⟩], none⟩) (v := ?v62) rfl (by kernel_rfl) (by kernel_rfl) (by kernel_rfl) (fun _ _ _ h => h) (Or.inl ⟨by rfl, ?hy62⟩) (by assumption) ?r62
        case hy62 => (intro w hSw; (try dsimp only at hSw); go_simp; try with_reducible rfl)
        try simp only [Act.put, List.setIfInBounds_toArray, List.set_cons_zero, List.set_cons_succ]
        refine wpAnyH_take (i := 4) (oi := ⟨some 10, .move (.tmp 9), 4, "l10_tree.go:230", #[⟨3, .data⟩], none⟩) (v := ?v63) rfl (by kernel_rfl) (by kernel_rfl) (by kernel_rfl) (fun _ _ _ h => h) (Or.inl ⟨by rfl, ?hy63⟩) (by assumption) ?r63
        case hy63 => (intro w hSw; (try dsimp only at hSw); go_simp; try with_reducible rfl)
        try simp only [Act.put, List.setIfInBounds_toArray, List.set_cons_zero, List.set_cons_succ]
        refine wpAnyH_take (i := 5) (oi := ⟨some 11, .move (.tmp 3), 3, "l10_tree.go:230", #[⟨4, .guard⟩], some (4, false)⟩) (v := ?v64) rfl (by kernel_rfl) (by kernel_rfl) (by kernel_rfl) (fun _ _ _ h => h) (Or.inl ⟨by rfl, ?hy64⟩) (by assumption) ?r64
        case hy64 => (intro w hSw; (try dsimp only at hSw); go_simp; try with_reducible rfl)
        try simp only [Act.put, List.setIfInBounds_toArray, List.set_cons_zero, List.set_cons_succ]
        refine wpAnyH_take (i := 6) (oi := ⟨some 12, .move (.tmp 0), 72, "l10_tree.go:230", #[⟨4, .guard⟩], some (4, false)⟩) (v := ?v65) rfl (by kernel_rfl) (by kernel_rfl) (by kernel_rfl) (fun _ _ _ h => h) (Or.inl ⟨by rfl, ?hy65⟩) (by assumption) ?r65
        case hy65 => (intro w hSw; (try dsimp only at hSw); go_simp; try with_reducible rfl)
        try simp only [Act.put, List.setIfInBounds_toArray, List.set_cons_zero, List.set_cons_succ]
        refine wpAnyH_take (i := 7) (oi := ⟨some 13, .nilCheck (.tmp 12), 0, "l10_tree.go:230", #[⟨6, .data⟩, ⟨4, .guard⟩], some (4, false)⟩) (v := ?v66) rfl (by kernel_rfl) (by kernel_rfl) (by kernel_rfl) (fun _ _ _ h => h) (Or.inl ⟨by rfl, ?hy66⟩) (by assumption) ?r66
        case hy66 => (intro w hSw; (try dsimp only at hSw); go_simp; try with_reducible rfl)
        try simp only [Act.put, List.setIfInBounds_toArray, List.set_cons_zero, List.set_cons_succ]
        refine wpAnyH_take (i := 8) (oi := ⟨some 14, .fieldAddr 74 (.tmp 13) 0, 0, "l10_tree.go:230", #[⟨7, .data⟩, ⟨4, .guard⟩], some (4, false)⟩) (v := ?v67) rfl (by kernel_rfl) (by kernel_rfl) (by kernel_rfl) (fun _ _ _ h => h) (Or.inl ⟨by rfl, ?hy67⟩) (by assumption) ?r67
        case hy67 => (intro w hSw; (try dsimp only at hSw); go_simp; try with_reducible rfl)
        try simp only [Act.put, List.setIfInBounds_toArray, List.set_cons_zero, List.set_cons_succ]
        refine wpAnyH_take (i := 9) (oi := ⟨some 15, .load 22 (.tmp 14), 22, "l10_tree.go:230", #[⟨8, .data⟩, ⟨4, .guard⟩], some (4, false)⟩) (v := ?v68) rfl (by kernel_rfl) (by kernel_rfl) (by kernel_rfl) (fun _ _ _ h => h) (Or.inl ⟨by rfl, ?hy68⟩) (by assumption) ?r68
        case hy68 => (intro w hSw; (try dsimp only at hSw); go_simp; try with_reducible rfl)
        try simp only [Act.put, List.setIfInBounds_toArray, List.set_cons_zero, List.set_cons_succ]
        refine wpAnyH_take (i := 10) (oi := ⟨some 16, .call { callee := .builtin .len, args := #[.tmp 15], argTypes := #[22] }, 3, "l10_tree.go:230", #[⟨9, .data⟩, ⟨4, .guard⟩], some (4, false)⟩) (v := ?v69) rfl (by kernel_rfl) (by kernel_rfl) (by kernel_rfl) (fun _ _ _ h => h) (Or.inl ⟨by rfl, ?hy69⟩) (by assumption) ?r69
        case hy69 => (intro w hSw; (try dsimp only at hSw); go_simp; try with_reducible rfl)
        try simp only [Act.put, List.setIfInBounds_toArray, List.set_cons_zero, List.set_cons_succ]
        refine wpAnyH_take (i := 11) (oi := ⟨some 17, .move (.tmp 0), 72, "l10_tree.go:230", #[⟨4, .guard⟩], some (4, false)⟩) (v := ?v70) rfl (by kernel_rfl) (by kernel_rfl) (by kernel_rfl) (fun _ _ _ h => h) (Or.inl ⟨by rfl, ?hy70⟩) (by assumption) ?r70
        case hy70 => (intro w hSw; (try dsimp only at hSw); go_simp; try with_reducible rfl)
        try simp only [Act.put, List.setIfInBounds_toArray, List.set_cons_zero, List.set_cons_succ]
        refine wpAnyH_take (i := 12) (oi := ⟨some 18, .nilCheck (.tmp 17), 0, "l10_tree.go:230", #[⟨11, .data⟩, ⟨4, .guard⟩], some (4, false)⟩) (v := ?v71) rfl (by kernel_rfl) (by kernel_rfl) (by kernel_rfl) (fun _ _ _ h => h) (Or.inl ⟨by rfl, ?hy71⟩) (by assumption) ?r71
        case hy71 => (intro w hSw; (try dsimp only at hSw); go_simp; try with_reducible rfl)
        try simp only [Act.put, List.setIfInBounds_toArray, List.set_cons_zero, List.set_cons_succ]
        refine wpAnyH_take (i := 13) (oi := ⟨some 19, .fieldAddr 74 (.tmp 18) 1, 0, "l10_tree.go:230", #[⟨12, .data⟩, ⟨4, .guard⟩], some (4, false)⟩) (v := ?v72) rfl (by kernel_rfl) (by kernel_rfl) (by kernel_rfl) (fun _ _ _ h => h) (Or.inl ⟨by rfl, ?hy72⟩) (by assumption) ?r72
        case hy72 => (intro w hSw; (try dsimp only at hSw); go_simp; try with_reducible rfl)
        try simp only [Act.put, List.setIfInBounds_toArray, List.set_cons_zero, List.set_cons_succ]
        refine wpAnyH_take (i := 14) (oi := ⟨some 20, .load 3 (.tmp 19), 3, "l10_tree.go:230", #[⟨13, .data⟩, ⟨4, .guard⟩], some (4, false)⟩) (v := ?v73) rfl (by kernel_rfl) (by kernel_rfl) (by kernel_rfl) (fun _ _ _ h => h) (Or.inl ⟨by rfl, ?hy73⟩) (by assumption) ?r73
        case hy73 => (intro w hSw; (try dsimp only at hSw); go_simp; try with_reducible rfl)
        try simp only [Act.put, List.setIfInBounds_toArray, List.set_cons_zero, List.set_cons_succ]
        refine wpAnyH_take (i := 15) (oi := ⟨some 21, .binOp .sub 3 (.tmp 16) (.tmp 20) 3, 3, "l10_tree.go:230", #[⟨10, .data⟩, ⟨14, .data⟩, ⟨4, .guard⟩], some (4, false)⟩) (v := ?v74) rfl (by kernel_rfl) (by kernel_rfl) (by kernel_rfl) (fun _ _ _ h => h) (Or.inl ⟨by rfl, ?hy74⟩) (by assumption) ?r74
        case hy74 => (intro w hSw; (try dsimp only at hSw); go_simp; try with_reducible rfl)
        try simp only [Act.put, List.setIfInBounds_toArray, List.set_cons_zero, List.set_cons_succ]
        refine wpAnyH_take (i := 16) (oi := ⟨some 22, .binOp .gtr 3 (.tmp 11) (.tmp 21) 3, 4, "l10_tree.go:230", #[⟨5, .data⟩, ⟨15, .data⟩, ⟨4, .guard⟩], some (4, false)⟩) (v := ?v75) rfl (by kernel_rfl) (by kernel_rfl) (by kernel_rfl) (fun _ _ _ h => h) (Or.inl ⟨by rfl, ?hy75⟩) (by assumption) ?r75
        case hy75 => (intro w hSw; (try dsimp only at hSw); go_simp; try with_reducible rfl)
        try simp only [Act.put, List.setIfInBounds_toArray, List.set_cons_zero, List.set_cons_succ]
        refine wpAnyH_take (i := 17) (oi := ⟨some 23, .pick (.tmp 10) (.const (.bool true)) (.tmp 22), 4, "l10_tree.go:230", #[⟨4, .data⟩, ⟨16, .data⟩], none⟩) (v := ?v76) rfl (by kernel_rfl) (by kernel_rfl) (by kernel_rfl) (fun _ _ _ h => h) (Or.inl ⟨by rfl, ?hy76⟩) (by assumption) ?r76
        case hy76 => (intro w hSw; (try dsimp only at hSw); go_simp; try with_reducible rfl)
        try simp only [Act.put, List.setIfInBounds_toArray, List.set_cons_zero, List.set_cons_succ]
        refine wpAnyH_done (by kernel_rfl) ?_ _
        go_wp2_with fail
        refine wp_region_held_drew (S := fun w' => w'.cell? ⟨p, 0, none⟩ = some (.slice (some ⟨b, 0, none⟩) N C) ∧ w'.cell? ⟨p, 1, none⟩ = some (.int .i64 ((i1 : Int) + (m : Int))) ∧ Lib.Bytes w' b i1 X) (by kernel_rfl) (HS6.out) (fun hHeld => ?_)
        refine wpAnyH_take (i := 0) (oi := ⟨some 36, .move (.tmp 0), 72, "l10_tree.go:235", #[], none⟩) (v := ?v7) rfl (by kernel_rfl) (by kernel_rfl) (by kernel_rfl) (fun _ _ _ h => h) (Or.inl ⟨by rfl, ?hy7⟩) (by assumption) ?r7
        case hy7 => (intro w hSw; (try dsimp only at hSw); go_simp; try with_reducible rfl)
        try simp only [Act.put, List.setIfInBounds_toArray, List.set_cons_zero, List.set_cons_succ]
        refine wpAnyH_take (i := 1) (oi := ⟨some 37, .nilCheck (.tmp 36), 0, "l10_tree.go:235", #[⟨0, .data⟩], none⟩) (v := ?v8) rfl (by kernel_rfl) (by kernel_rfl) (by kernel_rfl) (fun _ _ _ h => h) (Or.inl ⟨by rfl, ?hy8⟩) (by assumption) ?r8
        case hy8 => (intro w hSw; (try dsimp only at hSw); go_simp; try with_reducible rfl)
        try simp only [Act.put, List.setIfInBounds_toArray, List.set_cons_zero, List.set_cons_succ]
        refine wpAnyH_take (i := 2) (oi := ⟨some 38, .fieldAddr 74 (.tmp 37) 0, 0, "l10_tree.go:235", #[⟨1, .data⟩], none⟩) (v := ?v9) rfl (by kernel_rfl) (by kernel_rfl) (by kernel_rfl) (fun _ _ _ h => h) (Or.inl ⟨by rfl, ?hy9⟩) (by assumption) ?r9
        case hy9 => (intro w hSw; (try dsimp only at hSw); go_simp; try with_reducible rfl)
        try simp only [Act.put, List.setIfInBounds_toArray, List.set_cons_zero, List.set_cons_succ]
        refine wpAnyH_take (i := 3) (oi := ⟨some 39, .load 22 (.tmp 38), 22, "l10_tree.go:235", #[⟨2, .data⟩], none⟩) (v := ?v10) rfl (by kernel_rfl) (by kernel_rfl) (by kernel_rfl) (fun _ _ _ h => h) (Or.inl ⟨by rfl, ?hy10⟩) (by assumption) ?r10
        case hy10 => (intro w hSw; (try dsimp only at hSw); go_simp; try with_reducible rfl)
        try simp only [Act.put, List.setIfInBounds_toArray, List.set_cons_zero, List.set_cons_succ]
        refine wpAnyH_take (i := 4) (oi := ⟨some 40, .move (.tmp 0), 72, "l10_tree.go:235", #[], none⟩) (v := ?v11) rfl (by kernel_rfl) (by kernel_rfl) (by kernel_rfl) (fun _ _ _ h => h) (Or.inl ⟨by rfl, ?hy11⟩) (by assumption) ?r11
        case hy11 => (intro w hSw; (try dsimp only at hSw); go_simp; try with_reducible rfl)
        try simp only [Act.put, List.setIfInBounds_toArray, List.set_cons_zero, List.set_cons_succ]
        refine wpAnyH_take (i := 5) (oi := ⟨some 41, .nilCheck (.tmp 40), 0, "l10_tree.go:235", #[⟨4, .data⟩], none⟩) (v := ?v12) rfl (by kernel_rfl) (by kernel_rfl) (by kernel_rfl) (fun _ _ _ h => h) (Or.inl ⟨by rfl, ?hy12⟩) (by assumption) ?r12
        case hy12 => (intro w hSw; (try dsimp only at hSw); go_simp; try with_reducible rfl)
        try simp only [Act.put, List.setIfInBounds_toArray, List.set_cons_zero, List.set_cons_succ]
        refine wpAnyH_take (i := 6) (oi := ⟨some 42, .fieldAddr 74 (.tmp 41) 1, 0, "l10_tree.go:235", #[⟨5, .data⟩], none⟩) (v := ?v13) rfl (by kernel_rfl) (by kernel_rfl) (by kernel_rfl) (fun _ _ _ h => h) (Or.inl ⟨by rfl, ?hy13⟩) (by assumption) ?r13
        case hy13 => (intro w hSw; (try dsimp only at hSw); go_simp; try with_reducible rfl)
        try simp only [Act.put, List.setIfInBounds_toArray, List.set_cons_zero, List.set_cons_succ]
        refine wpAnyH_take (i := 7) (oi := ⟨some 43, .load 3 (.tmp 42), 3, "l10_tree.go:235", #[⟨6, .data⟩], none⟩) (v := ?v14) rfl (by kernel_rfl) (by kernel_rfl) (by kernel_rfl) (fun _ _ _ h => h) (Or.inl ⟨by rfl, ?hy14⟩) (by assumption) ?r14
        case hy14 => (intro w hSw; (try dsimp only at hSw); go_simp; try with_reducible rfl)
        try simp only [Act.put, List.setIfInBounds_toArray, List.set_cons_zero, List.set_cons_succ]
        refine wpAnyH_take (i := 8) (oi := ⟨some 44, .move (.tmp 3), 3, "l10_tree.go:235", #[], none⟩) (v := ?v15) rfl (by kernel_rfl) (by kernel_rfl) (by kernel_rfl) (fun _ _ _ h => h) (Or.inl ⟨by rfl, ?hy15⟩) (by assumption) ?r15
        case hy15 => (intro w hSw; (try dsimp only at hSw); go_simp; try with_reducible rfl)
        try simp only [Act.put, List.setIfInBounds_toArray, List.set_cons_zero, List.set_cons_succ]
        refine wpAnyH_take (i := 9) (oi := ⟨some 45, .binOp .sub 3 (.tmp 43) (.tmp 44) 3, 3, "l10_tree.go:235", #[⟨7, .data⟩, ⟨8, .data⟩], none⟩) (v := ?v16) rfl (by kernel_rfl) (by kernel_rfl) (by kernel_rfl) (fun _ _ _ h => h) (Or.inl ⟨by rfl, ?hy16⟩) (by assumption) ?r16
        case hy16 => (intro w hSw; (try dsimp only at hSw); go_simp; try with_reducible rfl)
        try simp only [Act.put, List.setIfInBounds_toArray, List.set_cons_zero, List.set_cons_succ]
        refine wpAnyH_take (i := 10) (oi := ⟨some 46, .move (.tmp 0), 72, "l10_tree.go:235", #[], none⟩) (v := ?v17) rfl (by kernel_rfl) (by kernel_rfl) (by kernel_rfl) (fun _ _ _ h => h) (Or.inl ⟨by rfl, ?hy17⟩) (by assumption) ?r17
        case hy17 => (intro w hSw; (try dsimp only at hSw); go_simp; try with_reducible rfl)
        try simp only [Act.put, List.setIfInBounds_toArray, List.set_cons_zero, List.set_cons_succ]
        refine wpAnyH_take (i := 11) (oi := ⟨some 47, .nilCheck (.tmp 46), 0, "l10_tree.go:235", #[⟨10, .data⟩], none⟩) (v := ?v18) rfl (by kernel_rfl) (by kernel_rfl) (by kernel_rfl) (fun _ _ _ h => h) (Or.inl ⟨by rfl, ?hy18⟩) (by assumption) ?r18
        case hy18 => (intro w hSw; (try dsimp only at hSw); go_simp; try with_reducible rfl)
        try simp only [Act.put, List.setIfInBounds_toArray, List.set_cons_zero, List.set_cons_succ]
        refine wpAnyH_take (i := 12) (oi := ⟨some 48, .fieldAddr 74 (.tmp 47) 1, 0, "l10_tree.go:235", #[⟨11, .data⟩], none⟩) (v := ?v19) rfl (by kernel_rfl) (by kernel_rfl) (by kernel_rfl) (fun _ _ _ h => h) (Or.inl ⟨by rfl, ?hy19⟩) (by assumption) ?r19
        case hy19 => (intro w hSw; (try dsimp only at hSw); go_simp; try with_reducible rfl)
        try simp only [Act.put, List.setIfInBounds_toArray, List.set_cons_zero, List.set_cons_succ]
        refine wpAnyH_take (i := 13) (oi := ⟨some 49, .load 3 (.tmp 48), 3, "l10_tree.go:235", #[⟨12, .data⟩], none⟩) (v := ?v20) rfl (by kernel_rfl) (by kernel_rfl) (by kernel_rfl) (fun _ _ _ h => h) (Or.inl ⟨by rfl, ?hy20⟩) (by assumption) ?r20
        case hy20 => (intro w hSw; (try dsimp only at hSw); go_simp; try with_reducible rfl)
        try simp only [Act.put, List.setIfInBounds_toArray, List.set_cons_zero, List.set_cons_succ]
        refine wpAnyH_take (i := 14) (oi := ⟨some 50, .slice 22 (.tmp 39) (some (.tmp 45)) (some (.tmp 49)) none, 22, "l10_tree.go:235", #[⟨3, .data⟩, ⟨9, .data⟩, ⟨13, .data⟩], none⟩) (v := ?v21) rfl (by kernel_rfl) (by kernel_rfl) (by kernel_rfl) (fun _ _ _ h => h) (Or.inl ⟨by rfl, ?hy21⟩) (by assumption) ?r21
        case hy21 => (intro w hSw; (try dsimp only at hSw); go_simp; try with_reducible rfl)
        try simp only [Act.put, List.setIfInBounds_toArray, List.set_cons_zero, List.set_cons_succ]
        refine wpAnyH_take (i := 15) (oi := ⟨some 51, .convert 22 9 (.tmp 50), 9, "l10_tree.go:235", #[⟨14, .data⟩], none⟩) (v := ?v22) rfl (by kernel_rfl) (by kernel_rfl) (by kernel_rfl) (fun _ _ _ h => h) (Or.inl ⟨by rfl, ?hy22⟩) (by assumption) ?r22
        case hy22 => (intro w hSw; (try dsimp only at hSw); go_simp; try with_reducible rfl)
        try simp only [Act.put, List.setIfInBounds_toArray, List.set_cons_zero, List.set_cons_succ]
        refine wpAnyH_take (i := 16) (oi := ⟨some 2, .assign (.tmp 51), 9, "l10_tree.go:235", #[⟨15, .data⟩, ⟨0, .phase⟩, ⟨1, .phase⟩, ⟨2, .phase⟩, ⟨3, .phase⟩, ⟨4, .phase⟩, ⟨5, .phase⟩, ⟨6, .phase⟩, ⟨7, .phase⟩, ⟨8, .phase⟩, ⟨9, .phase⟩, ⟨10, .phase⟩, ⟨11, .phase⟩, ⟨12, .phase⟩, ⟨13, .phase⟩, ⟨14, .phase⟩, ⟨15, .phase⟩], none⟩) (v := ?v23) rfl (by kernel_rfl) (by kernel_rfl) (by kernel_rfl) (fun _ _ _ h => h) (Or.inl ⟨by rfl, ?hy23⟩) (by assumption) ?r23
        case hy23 => (intro w hSw; (try dsimp only at hSw); go_simp; try with_reducible rfl)
        try simp only [Act.put, List.setIfInBounds_toArray, List.set_cons_zero, List.set_cons_succ]
        refine wpAnyH_done (by kernel_rfl) ?_ _
        go_wp2
        go_ret
        exact HR.out
      · have HS6 : Hid ((w1.setCell ⟨p, 1, none⟩ (.int .i64 ((i1 : Int) + (m : Int)))).drew.drew.cell? ⟨p, 0, none⟩ = some (.slice (some ⟨b, 0, none⟩) N C) ∧ (w1.setCell ⟨p, 1, none⟩ (.int .i64 ((i1 : Int) + (m : Int)))).drew.drew.cell? ⟨p, 1, none⟩ = some (.int .i64 ((i1 : Int) + (m : Int))) ∧ Lib.Bytes (w1.setCell ⟨p, 1, none⟩ (.int .i64 ((i1 : Int) + (m : Int)))).drew.drew b 0 X) := ⟨by rw [HNN.out]; exact HSI.out.c0, by have := HSI.out.c1; rwa [show ((i1 + m : Nat) : Int) = (i1 : Int) + (m : Int) by omega] at this, HBX.out _ HGI.out 0 (fun h => absurd (show i1 < C by omega) hiN)⟩
        have hs1 : (i1 : Int) ≤ (N : Int) := by omega
        have hs2 : (i1 : Int) + (m : Int) ≤ (N : Int) := by omega
        have hne : (C = i1) = True := by simp only [eq_iff_iff, iff_true]; omega
        have hs3 : (i1 : Int) + (m : Int) ≤ (C : Int) := by omega
        have hs4 : (i1 : Int) ≤ (C : Int) := by omega
        have hwi : IntKind.i64.wrap (i1 : Int) = (i1 : Int) := by rw [IntKind.wrap_i64]; omega
        have h00 : (0 : Int) ≤ (i1 : Int) + (m : Int) := by omega
        have hmx : max ((i1 : Int) + (m : Int)) 0 = (i1 : Int) + (m : Int) := by omega
        have hlm : (i1 : Int) ≤ (i1 : Int) + (m : Int) := by omega
        have htn : ((i1 : Int) + (m : Int)).toNat = i1 + m := by omega
        have htm : i1 + m - i1 = m := by omega
        have hw2 : IntKind.i64.wrap ((i1 : Int) + (m : Int)) = (i1 : Int) + (m : Int) := by rw [IntKind.wrap_i64]; omega
        go_wp2_with fail
        refine wp_region_held_drew (S := fun w' => w'.cell? ⟨p, 0, none⟩ = some (.slice (some ⟨b, 0, none⟩) N C) ∧ w'.cell? ⟨p, 1, none⟩ = some (.int .i64 (i1 : Int)) ∧ w'.cell? ⟨p, 2, none⟩ = some (.bool false)) (by kernel_rfl) (⟨c0, c1, c2⟩) (fun hHeld => ?_)
        refine wpAnyH_take (i := 0) (oi := ⟨some 6, .move (.tmp 0), 72, "l10_tree.go:230", #[], none⟩) (v := ?v41) rfl (by kernel_rfl) (by kernel_rfl) (by kernel_rfl) (fun _ _ _ h => h) (Or.inl ⟨by rfl, ?hy41⟩) (by assumption) ?r41
        case hy41 => (intro w hSw; (try dsimp only at hSw); go_simp; try with_reducible rfl)
        try simp only [Act.put, List.setIfInBounds_toArray, List.set_cons_zero, List.set_cons_succ]
        refine wpAnyH_take (i := 1) (oi := ⟨some 7, .nilCheck (.tmp 6), 0, "l10_tree.go:230", #[⟨0, .data⟩], none⟩) (v := ?v42) rfl (by kernel_rfl) (by kernel_rfl) (by kernel_rfl) (fun _ _ _ h => h) (Or.inl ⟨by rfl, ?hy42⟩) (by assumption) ?r42
        case hy42 => (intro w hSw; (try dsimp only at hSw); go_simp; try with_reducible rfl)
        try simp only [Act.put, List.setIfInBounds_toArray, List.set_cons_zero, List.set_cons_succ]
        refine wpAnyH_take (i := 2) (oi := ⟨some 8, .fieldAddr 74 (.tmp 7) 2, 0, "l10_tree.go:230", #[⟨1, .data⟩], none⟩) (v := ?v43) rfl (by kernel_rfl) (by kernel_rfl) (by kernel_rfl) (fun _ _ _ h => h) (Or.inl ⟨by rfl, ?hy43⟩) (by assumption) ?r43
        case hy43 => (intro w hSw; (try dsimp only at hSw); go_simp; try with_reducible rfl)
        try simp only [Act.put, List.setIfInBounds_toArray, List.set_cons_zero, List.set_cons_succ]
        refine wpAnyH_take (i := 3) (oi := ⟨some 9, .load 4 (.tmp 8), 4, "l10_tree.go:230", #[⟨2, .data⟩], none⟩) (v := ?v44) rfl (by kernel_rfl) (by kernel_rfl) (by kernel_rfl) (fun _ _ _ h => h) (Or.inl ⟨by rfl, ?hy44⟩) (by assumption) ?r44
        case hy44 => (intro w hSw; (try dsimp only at hSw); go_simp; try with_reducible rfl)
        try simp only [Act.put, List.setIfInBounds_toArray, List.set_cons_zero, List.set_cons_succ]
        refine wpAnyH_take (i := 4) (oi := ⟨some 10, .move (.tmp 9), 4, "l10_tree.go:230", #[⟨3, .data⟩], none⟩) (v := ?v45) rfl (by kernel_rfl) (by kernel_rfl) (by kernel_rfl) (fun _ _ _ h => h) (Or.inl ⟨by rfl, ?hy45⟩) (by assumption) ?r45
        case hy45 => (intro w hSw; (try dsimp only at hSw); go_simp; try with_reducible rfl)
        try simp only [Act.put, List.setIfInBounds_toArray, List.set_cons_zero, List.set_cons_succ]
        refine wpAnyH_take (i := 5) (oi := ⟨some 11, .move (.tmp 3), 3, "l10_tree.go:230", #[⟨4, .guard⟩], some (4, false)⟩) (v := ?v46) rfl (by kernel_rfl) (by kernel_rfl) (by kernel_rfl) (fun _ _ _ h => h) (Or.inl ⟨by rfl, ?hy46⟩) (by assumption) ?r46
        case hy46 => (intro w hSw; (try dsimp only at hSw); go_simp; try with_reducible rfl)
        try simp only [Act.put, List.setIfInBounds_toArray, List.set_cons_zero, List.set_cons_succ]
        refine wpAnyH_take (i := 6) (oi := ⟨some 12, .move (.tmp 0), 72, "l10_tree.go:230", #[⟨4, .guard⟩], some (4, false)⟩) (v := ?v47) rfl (by kernel_rfl) (by kernel_rfl) (by kernel_rfl) (fun _ _ _ h => h) (Or.inl ⟨by rfl, ?hy47⟩) (by assumption) ?r47
        case hy47 => (intro w hSw; (try dsimp only at hSw); go_simp; try with_reducible rfl)
        try simp only [Act.put, List.setIfInBounds_toArray, List.set_cons_zero, List.set_cons_succ]
        refine wpAnyH_take (i := 7) (oi := ⟨some 13, .nilCheck (.tmp 12), 0, "l10_tree.go:230", #[⟨6, .data⟩, ⟨4, .guard⟩], some (4, false)⟩) (v := ?v48) rfl (by kernel_rfl) (by kernel_rfl) (by kernel_rfl) (fun _ _ _ h => h) (Or.inl ⟨by rfl, ?hy48⟩) (by assumption) ?r48
        case hy48 => (intro w hSw; (try dsimp only at hSw); go_simp; try with_reducible rfl)
        try simp only [Act.put, List.setIfInBounds_toArray, List.set_cons_zero, List.set_cons_succ]
        refine wpAnyH_take (i := 8) (oi := ⟨some 14, .fieldAddr 74 (.tmp 13) 0, 0, "l10_tree.go:230", #[⟨7, .data⟩, ⟨4, .guard⟩], some (4, false)⟩) (v := ?v49) rfl (by kernel_rfl) (by kernel_rfl) (by kernel_rfl) (fun _ _ _ h => h) (Or.inl ⟨by rfl, ?hy49⟩) (by assumption) ?r49
        case hy49 => (intro w hSw; (try dsimp only at hSw); go_simp; try with_reducible rfl)
        try simp only [Act.put, List.setIfInBounds_toArray, List.set_cons_zero, List.set_cons_succ]
        refine wpAnyH_take (i := 9) (oi := ⟨some 15, .load 22 (.tmp 14), 22, "l10_tree.go:230", #[⟨8, .data⟩, ⟨4, .guard⟩], some (4, false)⟩) (v := ?v50) rfl (by kernel_rfl) (by kernel_rfl) (by kernel_rfl) (fun _ _ _ h => h) (Or.inl ⟨by rfl, ?hy50⟩) (by assumption) ?r50
        case hy50 => (intro w hSw; (try dsimp only at hSw); go_simp; try with_reducible rfl)
        try simp only [Act.put, List.setIfInBounds_toArray, List.set_cons_zero, List.set_cons_succ]
        refine wpAnyH_take (i := 10) (oi := ⟨some 16, .call { callee := .builtin .len, args := #[.tmp 15], argTypes := #[22] }, 3, "l10_tree.go:230", #[⟨9, .data⟩, ⟨4, .guard⟩], some (4, false)⟩) (v := ?v51) rfl (by kernel_rfl) (by kernel_rfl) (by kernel_rfl) (fun _ _ _ h => h) (Or.inl ⟨by rfl, ?hy51⟩) (by assumption) ?r51
        case hy51 => (intro w hSw; (try dsimp only at hSw); go_simp; try with_reducible rfl)
        try simp only [Act.put, List.setIfInBounds_toArray, List.set_cons_zero, List.set_cons_succ]
        refine wpAnyH_take (i := 11) (oi := ⟨some 17, .move (.tmp 0), 72, "l10_tree.go:230", #[⟨4, .guard⟩], some (4, false)⟩) (v := ?v52) rfl (by kernel_rfl) (by kernel_rfl) (by kernel_rfl) (fun _ _ _ h => h) (Or.inl ⟨by rfl, ?hy52⟩) (by assumption) ?r52
        case hy52 => (intro w hSw; (try dsimp only at hSw); go_simp; try with_reducible rfl)
        try simp only [Act.put, List.setIfInBounds_toArray, List.set_cons_zero, List.set_cons_succ]
        refine wpAnyH_take (i := 12) (oi := ⟨some 18, .nilCheck (.tmp 17), 0, "l10_tree.go:230", #[⟨11, .data⟩, ⟨4, .guard⟩], some (4, false)⟩) (v := ?v53) rfl (by kernel_rfl) (by kernel_rfl) (by kernel_rfl) (fun _ _ _ h => h) (Or.inl ⟨by rfl, ?hy53⟩) (by assumption) ?r53
        case hy53 => (intro w hSw; (try dsimp only at hSw); go_simp; try with_reducible rfl)
        try simp only [Act.put, List.setIfInBounds_toArray, List.set_cons_zero, List.set_cons_succ]
        refine wpAnyH_take (i := 13) (oi := ⟨some 19, .fieldAddr 74 (.tmp 18) 1, 0, "l10_tree.go:230", #[⟨12, .data⟩, ⟨4, .guard⟩], some (4, false)⟩) (v := ?v54) rfl (by kernel_rfl) (by kernel_rfl) (by kernel_rfl) (fun _ _ _ h => h) (Or.inl ⟨by rfl, ?hy54⟩) (by assumption) ?r54
        case hy54 => (intro w hSw; (try dsimp only at hSw); go_simp; try with_reducible rfl)
        try simp only [Act.put, List.setIfInBounds_toArray, List.set_cons_zero, List.set_cons_succ]
        refine wpAnyH_take (i := 14) (oi := ⟨some 20, .load 3 (.tmp 19), 3, "l10_tree.go:230", #[⟨13, .data⟩, ⟨4, .guard⟩], some (4, false)⟩) (v := ?v55) rfl (by kernel_rfl) (by kernel_rfl) (by kernel_rfl) (fun _ _ _ h => h) (Or.inl ⟨by rfl, ?hy55⟩) (by assumption) ?r55
        case hy55 => (intro w hSw; (try dsimp only at hSw); go_simp; try with_reducible rfl)
        try simp only [Act.put, List.setIfInBounds_toArray, List.set_cons_zero, List.set_cons_succ]
        refine wpAnyH_take (i := 15) (oi := ⟨some 21, .binOp .sub 3 (.tmp 16) (.tmp 20) 3, 3, "l10_tree.go:230", #[⟨10, .data⟩, ⟨14, .data⟩, ⟨4, .guard⟩], some (4, false)⟩) (v := ?v56) rfl (by kernel_rfl) (by kernel_rfl) (by kernel_rfl) (fun _ _ _ h => h) (Or.inl ⟨by rfl, ?hy56⟩) (by assumption) ?r56
        case hy56 => (intro w hSw; (try dsimp only at hSw); go_simp; try with_reducible rfl)
        try simp only [Act.put, List.setIfInBounds_toArray, List.set_cons_zero, List.set_cons_succ]
        refine wpAnyH_take (i := 16) (oi := ⟨some 22, .binOp .gtr 3 (.tmp 11) (.tmp 21) 3, 4, "l10_tree.go:230", #[⟨5, .data⟩, ⟨15, .data⟩, ⟨4, .guard⟩], some (4, false)⟩) (v := ?v57) rfl (by kernel_rfl) (by kernel_rfl) (by kernel_rfl) (fun _ _ _ h => h) (Or.inl ⟨by rfl, ?hy57⟩) (by assumption) ?r57
        case hy57 => (intro w hSw; (try dsimp only at hSw); go_simp; try with_reducible rfl)
        try simp only [Act.put, List.setIfInBounds_toArray, List.set_cons_zero, List.set_cons_succ]
        refine wpAnyH_take (i := 17) (oi := ⟨some 23, .pick (.tmp 10) (.const (.bool true)) (.tmp 22), 4, "l10_tree.go:230", #[⟨4, .data⟩, ⟨16, .data⟩], none⟩) (v := ?v58) rfl (by kernel_rfl) (by kernel_rfl) (by kernel_rfl) (fun _ _ _ h => h) (Or.inl ⟨by rfl, ?hy58⟩) (by assumption) ?r58
        case hy58 => (intro w hSw; (try dsimp only at hSw); go_simp; try with_reducible rfl)
        try simp only [Act.put, List.setIfInBounds_toArray, List.set_cons_zero, List.set_cons_succ]
        refine wpAnyH_done (by kernel_rfl) ?_ _
        go_wp2_with fail
        refine wp_region_held_drew (S := fun w' => w'.cell? ⟨p, 0, none⟩ = some (.slice (some ⟨b, 0, none⟩) N C) ∧ w'.cell? ⟨p, 1, none⟩ = some (.int .i64 ((i1 : Int) + (m : Int))) ∧ Lib.Bytes w' b 0 X) (by kernel_rfl) (HS6.out) (fun hHeld => ?_)
        refine wpAnyH_take (i := 0) (oi := ⟨some 36, .move (.tmp 0), 72, "l10_tree.go:235", #[], none⟩) (v := ?v24) rfl (by kernel_rfl) (by kernel_rfl) (by kernel_rfl) (fun _ _ _ h => h) (Or.inl ⟨by rfl, ?hy24⟩) (by assumption) ?r24
        case hy24 => (intro w hSw; (try dsimp only at hSw); go_simp; try with_reducible rfl)
        try simp only [Act.put, List.setIfInBounds_toArray, List.set_cons_zero, List.set_cons_succ]
        refine wpAnyH_take (i := 1) (oi := ⟨some 37, .nilCheck (.tmp 36), 0, "l10_tree.go:235", #[⟨0, .data⟩], none⟩) (v := ?v25) rfl (by kernel_rfl) (by kernel_rfl) (by kernel_rfl) (fun _ _ _ h => h) (Or.inl ⟨by rfl, ?hy25⟩) (by assumption) ?r25
        case hy25 => (intro w hSw; (try dsimp only at hSw); go_simp; try with_reducible rfl)
        try simp only [Act.put, List.setIfInBounds_toArray, List.set_cons_zero, List.set_cons_succ]
        refine wpAnyH_take (i := 2) (oi := ⟨some 38, .fieldAddr 74 (.tmp 37) 0, 0, "l10_tree.go:235", #[⟨1, .data⟩], none⟩) (v := ?v26) rfl (by kernel_rfl) (by kernel_rfl) (by kernel_rfl) (fun _ _ _ h => h) (Or.inl ⟨by rfl, ?hy26⟩) (by assumption) ?r26
        case hy26 => (intro w hSw; (try dsimp only at hSw); go_simp; try with_reducible rfl)
        try simp only [Act.put, List.setIfInBounds_toArray, List.set_cons_zero, List.set_cons_succ]
        refine wpAnyH_take (i := 3) (oi := ⟨some 39, .load 22 (.tmp 38), 22, "l10_tree.go:235", #[⟨2, .data⟩], none⟩) (v := ?v27) rfl (by kernel_rfl) (by kernel_rfl) (by kernel_rfl) (fun _ _ _ h => h) (Or.inl ⟨by rfl, ?hy27⟩) (by assumption) ?r27
        case hy27 => (intro w hSw; (try dsimp only at hSw); go_simp; try with_reducible rfl)
        try simp only [Act.put, List.setIfInBounds_toArray, List.set_cons_zero, List.set_cons_succ]
        refine wpAnyH_take (i := 4) (oi := ⟨some 40, .move (.tmp 0), 72, "l10_tree.go:235", #[], none⟩) (v := ?v28) rfl (by kernel_rfl) (by kernel_rfl) (by kernel_rfl) (fun _ _ _ h => h) (Or.inl ⟨by rfl, ?hy28⟩) (by assumption) ?r28
        case hy28 => (intro w hSw; (try dsimp only at hSw); go_simp; try with_reducible rfl)
        try simp only [Act.put, List.setIfInBounds_toArray, List.set_cons_zero, List.set_cons_succ]
        refine wpAnyH_take (i := 5) (oi := ⟨some 41, .nilCheck (.tmp 40), 0, "l10_tree.go:235", #[⟨4, .data⟩], none⟩) (v := ?v29) rfl (by kernel_rfl) (by kernel_rfl) (by kernel_rfl) (fun _ _ _ h => h) (Or.inl ⟨by rfl, ?hy29⟩) (by assumption) ?r29
        case hy29 => (intro w hSw; (try dsimp only at hSw); go_simp; try with_reducible rfl)
        try simp only [Act.put, List.setIfInBounds_toArray, List.set_cons_zero, List.set_cons_succ]
        refine wpAnyH_take (i := 6) (oi := ⟨some 42, .fieldAddr 74 (.tmp 41) 1, 0, "l10_tree.go:235", #[⟨5, .data⟩], none⟩) (v := ?v30) rfl (by kernel_rfl) (by kernel_rfl) (by kernel_rfl) (fun _ _ _ h => h) (Or.inl ⟨by rfl, ?hy30⟩) (by assumption) ?r30
        case hy30 => (intro w hSw; (try dsimp only at hSw); go_simp; try with_reducible rfl)
        try simp only [Act.put, List.setIfInBounds_toArray, List.set_cons_zero, List.set_cons_succ]
        refine wpAnyH_take (i := 7) (oi := ⟨some 43, .load 3 (.tmp 42), 3, "l10_tree.go:235", #[⟨6, .data⟩], none⟩) (v := ?v31) rfl (by kernel_rfl) (by kernel_rfl) (by kernel_rfl) (fun _ _ _ h => h) (Or.inl ⟨by rfl, ?hy31⟩) (by assumption) ?r31
        case hy31 => (intro w hSw; (try dsimp only at hSw); go_simp; try with_reducible rfl)
        try simp only [Act.put, List.setIfInBounds_toArray, List.set_cons_zero, List.set_cons_succ]
        refine wpAnyH_take (i := 8) (oi := ⟨some 44, .move (.tmp 3), 3, "l10_tree.go:235", #[], none⟩) (v := ?v32) rfl (by kernel_rfl) (by kernel_rfl) (by kernel_rfl) (fun _ _ _ h => h) (Or.inl ⟨by rfl, ?hy32⟩) (by assumption) ?r32
        case hy32 => (intro w hSw; (try dsimp only at hSw); go_simp; try with_reducible rfl)
        try simp only [Act.put, List.setIfInBounds_toArray, List.set_cons_zero, List.set_cons_succ]
        refine wpAnyH_take (i := 9) (oi := ⟨some 45, .binOp .sub 3 (.tmp 43) (.tmp 44) 3, 3, "l10_tree.go:235", #[⟨7, .data⟩, ⟨8, .data⟩], none⟩) (v := ?v33) rfl (by kernel_rfl) (by kernel_rfl) (by kernel_rfl) (fun _ _ _ h => h) (Or.inl ⟨by rfl, ?hy33⟩) (by assumption) ?r33
        case hy33 => (intro w hSw; (try dsimp only at hSw); go_simp; try with_reducible rfl)
        try simp only [Act.put, List.setIfInBounds_toArray, List.set_cons_zero, List.set_cons_succ]
        refine wpAnyH_take (i := 10) (oi := ⟨some 46, .move (.tmp 0), 72, "l10_tree.go:235", #[], none⟩) (v := ?v34) rfl (by kernel_rfl) (by kernel_rfl) (by kernel_rfl) (fun _ _ _ h => h) (Or.inl ⟨by rfl, ?hy34⟩) (by assumption) ?r34
        case hy34 => (intro w hSw; (try dsimp only at hSw); go_simp; try with_reducible rfl)
        try simp only [Act.put, List.setIfInBounds_toArray, List.set_cons_zero, List.set_cons_succ]
        refine wpAnyH_take (i := 11) (oi := ⟨some 47, .nilCheck (.tmp 46), 0, "l10_tree.go:235", #[⟨10, .data⟩], none⟩) (v := ?v35) rfl (by kernel_rfl) (by kernel_rfl) (by kernel_rfl) (fun _ _ _ h => h) (Or.inl ⟨by rfl, ?hy35⟩) (by assumption) ?r35
        case hy35 => (intro w hSw; (try dsimp only at hSw); go_simp; try with_reducible rfl)
        try simp only [Act.put, List.setIfInBounds_toArray, List.set_cons_zero, List.set_cons_succ]
        refine wpAnyH_take (i := 12) (oi := ⟨some 48, .fieldAddr 74 (.tmp 47) 1, 0, "l10_tree.go:235", #[⟨11, .data⟩], none⟩) (v := ?v36) rfl (by kernel_rfl) (by kernel_rfl) (by kernel_rfl) (fun _ _ _ h => h) (Or.inl ⟨by rfl, ?hy36⟩) (by assumption) ?r36
        case hy36 => (intro w hSw; (try dsimp only at hSw); go_simp; try with_reducible rfl)
        try simp only [Act.put, List.setIfInBounds_toArray, List.set_cons_zero, List.set_cons_succ]
        refine wpAnyH_take (i := 13) (oi := ⟨some 49, .load 3 (.tmp 48), 3, "l10_tree.go:235", #[⟨12, .data⟩], none⟩) (v := ?v37) rfl (by kernel_rfl) (by kernel_rfl) (by kernel_rfl) (fun _ _ _ h => h) (Or.inl ⟨by rfl, ?hy37⟩) (by assumption) ?r37
        case hy37 => (intro w hSw; (try dsimp only at hSw); go_simp; try with_reducible rfl)
        try simp only [Act.put, List.setIfInBounds_toArray, List.set_cons_zero, List.set_cons_succ]
        refine wpAnyH_take (i := 14) (oi := ⟨some 50, .slice 22 (.tmp 39) (some (.tmp 45)) (some (.tmp 49)) none, 22, "l10_tree.go:235", #[⟨3, .data⟩, ⟨9, .data⟩, ⟨13, .data⟩], none⟩) (v := ?v38) rfl (by kernel_rfl) (by kernel_rfl) (by kernel_rfl) (fun _ _ _ h => h) (Or.inl ⟨by rfl, ?hy38⟩) (by assumption) ?r38
        case hy38 => (intro w hSw; (try dsimp only at hSw); go_simp; try with_reducible rfl)
        try simp only [Act.put, List.setIfInBounds_toArray, List.set_cons_zero, List.set_cons_succ]
        refine wpAnyH_take (i := 15) (oi := ⟨some 51, .convert 22 9 (.tmp 50), 9, "l10_tree.go:235", #[⟨14, .data⟩], none⟩) (v := ?v39) rfl (by kernel_rfl) (by kernel_rfl) (by kernel_rfl) (fun _ _ _ h => h) (Or.inl ⟨by rfl, ?hy39⟩) (by assumption) ?r39
        case hy39 => (intro w hSw; (try dsimp only at hSw); go_simp; try with_reducible rfl)
        try simp only [Act.put, List.setIfInBounds_toArray, List.set_cons_zero, List.set_cons_succ]
        refine wpAnyH_take (i := 16) (oi := ⟨some 2, .assign (.tmp 51), 9, "l10_tree.go:235", #[⟨15, .data⟩, ⟨0, .phase⟩, ⟨1, .phase⟩, ⟨2, .phase⟩, ⟨3, .phase⟩, ⟨4, .phase⟩, ⟨5, .phase⟩, ⟨6, .phase⟩, ⟨7, .phase⟩, ⟨8, .phase⟩, ⟨9, .phase⟩, ⟨10, .phase⟩, ⟨11, .phase⟩, ⟨12, .phase⟩, ⟨13, .phase⟩, ⟨14, .phase⟩, ⟨15, .phase⟩], none⟩) (v := ?v40) rfl (by kernel_rfl) (by kernel_rfl) (by kernel_rfl) (fun _ _ _ h => h) (Or.inl ⟨by rfl, ?hy40⟩) (by assumption) ?r40
        case hy40 => (intro w hSw; (try dsimp only at hSw); go_simp; try with_reducible rfl)
        try simp only [Act.put, List.setIfInBounds_toArray, List.set_cons_zero, List.set_cons_succ]
        refine wpAnyH_done (by kernel_rfl) ?_ _
        go_wp2
        go_ret
        exact HR.out

end Go.Proofs.YtaoimkjcaienbaaGreatDoor.up
