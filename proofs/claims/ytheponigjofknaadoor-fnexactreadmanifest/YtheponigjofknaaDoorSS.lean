import Derived.Test.YtheponigjofknaaDoorSC
import Derived.Test.YtheponigjofknaaDoorWS
import Derived.Deep.RegionHeld3
import Derived.Lib.Hide
import Derived.Laws.Closers25b
namespace Go.Proofs.YtheponigjofknaaDoor.sg
open Go.ChangeShapes Go.WideShapes Go.ChangeAt Go.RowKit Go.Deep
set_option linter.unusedVariables false

/-- A sum as a natural number. -/
def SV (l : List Int) (n : Nat) : Nat := (sm.lastS (sm.sumS l 14695981039346656037 n)).toNat

theorem SV_is (l : List Int) (n : Nat) : sm.lastS (sm.sumS l 14695981039346656037 n) = ((SV l n : Nat) : Int) ∧ SV l n < 18446744073709551616 := by
  have h0 : 0 ≤ sm.lastS (sm.sumS l 14695981039346656037 n) := bits_lo_u64 _ _ _
  have h1 : sm.lastS (sm.sumS l 14695981039346656037 n) ≤ 18446744073709551615 := bits_hi_u64 _ _ _
  unfold SV
  omega

theorem ssum_any (a : Option Addr) (n cap : Nat) (l : List Int) (w : World) (hb : sm.Bs w a n l) (hn : n ≤ 1099511627776) :
    Calls Tryd.prog 51 #[.slice a n cap] w fun e w' => e = .returned (.int .u64 ((SV l n : Nat) : Int)) ∧ w' = w := by
  have := sm.spec_any a n cap l w hb hn
  rwa [(SV_is l n).1] at this

theorem isum_any (a : Option Addr) (n cap : Nat) (l : List Int) (w : World) (hb : sm.Bs w a n l) (hn : n ≤ 1099511627776) :
    Calls Tryd.prog 55 #[.slice a n cap] w fun e w' => e = .returned (.int .u64 ((SV l n : Nat) : Int)) ∧ w' = w := by
  have := sm.impl_any a n cap l w hb hn
  rwa [(SV_is l n).1] at this

/-- What a key signs. -/
def sgV (N D S : Nat) : Nat := if N = 0 then 0 else pm (S % N) D N
/-- What checks. -/
def chB (n e S s : Nat) : Bool := decide (n ≠ 0) && (decide (s < n) && decide (pm s e n = S % n))

/-- One contract of a power for both sides. -/
theorem ipow_b (x n m : Nat) (hx : x < 18446744073709551616) (hn : n < 18446744073709551616) (hm : m < 18446744073709551616) (w : World) :
    Calls Tryd.prog 54 #[.int .u64 (x : Int), .int .u64 (n : Int), .int .u64 (m : Int)] w fun e w' => e = .returned (.int .u64 ((pm x n m : Nat) : Int)) ∧ Below w.heap.size w w' := ipow_any x n m hx hn hm w

theorem spow_b (x n m : Nat) (hx : x < 18446744073709551616) (hn : n < 18446744073709551616) (hm : m < 18446744073709551616) (w : World) :
    Calls Tryd.prog 50 #[.int .u64 (x : Int), .int .u64 (n : Int), .int .u64 (m : Int)] w fun e w' => e = .returned (.int .u64 ((pm x n m : Nat) : Int)) ∧ Below w.heap.size w w' :=
  (spow_any x n m hx hn hm w).mono fun e w' ⟨h, hw⟩ => ⟨h, by rw [hw]; exact Below.refl _ _⟩

theorem ssign_any (N E D : Nat) (hN : N < 18446744073709551616) (hD : D < 18446744073709551616) (a : Option Addr) (n cap : Nat) (l : List Int) (w : World) (hb : sm.Bs w a n l) (hn : n ≤ 1099511627776) :
    Calls Tryd.prog 27 #[.agg #[.int .u64 (N : Int), .int .u64 (E : Int), .int .u64 (D : Int)], .slice a n cap] w fun e w' => e = .returned (.int .u64 ((sgV N D (SV l n) : Nat) : Int)) ∧ Below w.heap.size w w' := by
  go_enter Tryd.func27, Tryd.ntmps27
  have B1 : ∀ o, Below w.heap.size w (w.alloc o) := fun o => (Below.refl _ _).alloc (Nat.le_refl _) _
  by_cases h0 : N = 0
  · have e : sgV N D (SV l n) = 0 := by unfold sgV; rw [if_pos h0]
    rw [e]
    subst h0
    clear hN hD
    go_wp2
    go_ret
    exact ⟨rfl, B1 _⟩
  have hz : ((N : Int) == 0) = false := by simp; omega
  have hz' : ¬ N = 0 := h0
  obtain ⟨S, hS⟩ : ∃ S, S = SV l n := ⟨_, rfl⟩
  obtain ⟨R, hR⟩ : ∃ R, R = S % N := ⟨_, rfl⟩
  have e1 : (S : Int) % (N : Int) = (R : Int) := by rw [hR, Int.natCast_emod]
  have lR : R < 18446744073709551616 := by have := Nat.mod_lt S (show 0 < N by omega); omega
  have HS : Hid (∀ W, Below w.heap.size w W → Calls Tryd.prog 51 #[.slice a n cap] W fun e w' => e = .returned (.int .u64 (S : Int)) ∧ w' = W) := fun W h => by
    have := ssum_any a n cap l W (hb.below h) hn
    rwa [← hS] at this
  have HP : Hid (∀ W, Calls Tryd.prog 50 #[.int .u64 ((S : Int) % (N : Int)), .int .u64 (D : Int), .int .u64 (N : Int)] W fun e w' => e = .returned (.int .u64 ((pm R D N : Nat) : Int)) ∧ Below W.heap.size W w') := fun W => by
    rw [e1]
    exact spow_b R D N lR hD hN W
  have HV : Hid (sgV N D (SV l n) = pm R D N) := by show _ = _; unfold sgV; rw [if_neg h0, ← hS, ← hR]
  have HB1 : Hid (∀ o, Below w.heap.size w (w.alloc o)) := B1
  obtain ⟨W1, hW1⟩ : ∃ W1 : World, W1 = (w.alloc (.cells #[.int .u64 (N : Int), .int .u64 (E : Int), .int .u64 (D : Int)] 35)).drew := ⟨_, rfl⟩
  have HK : Hid (∀ W, Below W1.heap.size W1 W → W.cell? ⟨w.heap.size, 0, none⟩ = some (.int .u64 (N : Int)) ∧ W.cell? ⟨w.heap.size, 2, none⟩ = some (.int .u64 (D : Int))) := fun W h => by
    subst hW1
    exact ⟨((bcell h).1 w.heap.size 0 (by simp)).trans (by simp), ((bcell h).1 w.heap.size 2 (by simp)).trans (by simp)⟩
  subst hW1
  clear hN hD hb hn hS hR lR B1 h0 e1
  go_wp2_with fail
  refine wp_region_held_drew (S := (fun W => W.cell? ⟨w.heap.size, 0, none⟩ = some (.int .u64 (N : Int)) ∧ W.cell? ⟨w.heap.size, 2, none⟩ = some (.int .u64 (D : Int)))) (by kernel_rfl) (HK.out _ (Below.refl _ _)) (fun hHeld => ?_)
  refine wpAnyH_take (i := 0) (oi := ⟨some 8, .move (.tmp 1), 46, "l15_sign.go:94", #[], none⟩) (v := ?v1) rfl (by kernel_rfl) (by kernel_rfl) (by kernel_rfl) (fun _ _ _ h => h) (Or.inl ⟨by rfl, ?hy1⟩) (by assumption) ?r1
  case hy1 => (intro w hSw; (try dsimp only at hSw); go_simp; try with_reducible rfl)
  try simp only [Act.put, List.setIfInBounds_toArray, List.set_cons_zero, List.set_cons_succ]
  refine wpAnyH_take (i := 2) (oi := ⟨some 10, .fieldAddr 35 (.tmp 2) 0, 0, "l15_sign.go:94", #[], none⟩) (v := ?v2) rfl (by kernel_rfl) (by kernel_rfl) (by kernel_rfl) (fun _ _ _ h => h) (Or.inl ⟨by rfl, ?hy2⟩) (by assumption) ?r2
  case hy2 => (intro w hSw; (try dsimp only at hSw); go_simp; try with_reducible rfl)
  try simp only [Act.put, List.setIfInBounds_toArray, List.set_cons_zero, List.set_cons_succ]
  refine wpAnyH_take (i := 3) (oi := ⟨some 11, .load 23 (.tmp 10), 23, "l15_sign.go:94", #[⟨2, .data⟩], none⟩) (v := ?v3) rfl (by kernel_rfl) (by kernel_rfl) (by kernel_rfl) (fun _ _ _ h => h) (Or.inl ⟨by rfl, ?hy3⟩) (by assumption) ?r3
  case hy3 => (intro w hSw; (try dsimp only at hSw); go_simp; try with_reducible rfl)
  try simp only [Act.put, List.setIfInBounds_toArray, List.set_cons_zero, List.set_cons_succ]
  refine wpAnyH_take (i := 5) (oi := ⟨some 13, .fieldAddr 35 (.tmp 2) 2, 0, "l15_sign.go:94", #[], none⟩) (v := ?v4) rfl (by kernel_rfl) (by kernel_rfl) (by kernel_rfl) (fun _ _ _ h => h) (Or.inl ⟨by rfl, ?hy4⟩) (by assumption) ?r4
  case hy4 => (intro w hSw; (try dsimp only at hSw); go_simp; try with_reducible rfl)
  try simp only [Act.put, List.setIfInBounds_toArray, List.set_cons_zero, List.set_cons_succ]
  refine wpAnyH_take (i := 6) (oi := ⟨some 14, .load 23 (.tmp 13), 23, "l15_sign.go:94", #[⟨5, .data⟩], none⟩) (v := ?v5) rfl (by kernel_rfl) (by kernel_rfl) (by kernel_rfl) (fun _ _ _ h => h) (Or.inl ⟨by rfl, ?hy5⟩) (by assumption) ?r5
  case hy5 => (intro w hSw; (try dsimp only at hSw); go_simp; try with_reducible rfl)
  try simp only [Act.put, List.setIfInBounds_toArray, List.set_cons_zero, List.set_cons_succ]
  refine wpAnyH_take (i := 7) (oi := ⟨some 15, .fieldAddr 35 (.tmp 2) 0, 0, "l15_sign.go:94", #[], none⟩) (v := ?v6) rfl (by kernel_rfl) (by kernel_rfl) (by kernel_rfl) (fun _ _ _ h => h) (Or.inl ⟨by rfl, ?hy6⟩) (by assumption) ?r6
  case hy6 => (intro w hSw; (try dsimp only at hSw); go_simp; try with_reducible rfl)
  try simp only [Act.put, List.setIfInBounds_toArray, List.set_cons_zero, List.set_cons_succ]
  refine wpAnyH_take (i := 8) (oi := ⟨some 16, .load 23 (.tmp 15), 23, "l15_sign.go:94", #[⟨7, .data⟩], none⟩) (v := ?v7) rfl (by kernel_rfl) (by kernel_rfl) (by kernel_rfl) (fun _ _ _ h => h) (Or.inl ⟨by rfl, ?hy7⟩) (by assumption) ?r7
  case hy7 => (intro w hSw; (try dsimp only at hSw); go_simp; try with_reducible rfl)
  try simp only [Act.put, List.setIfInBounds_toArray, List.set_cons_zero, List.set_cons_succ]
  refine wpAnyH_ready (rs := [1]) (by kernel_rfl) (by simp) ?_
  refine AllReadyH.cons (o := ⟨some 9, .call { callee := .value (.func 51), args := #[.tmp 8], argTypes := #[46] }, 23, "l15_sign.go:94", #[⟨0, .data⟩], none⟩) rfl (fun K hK => ?_) AllReadyH.nil
  go_simp
  go_at_call 51
  refine (HS.out _ (HB1.out _).drew).mono ?_
  rintro e wx ⟨rfl, hw⟩
  obtain rfl := hw.symm
  clear hw
  try go_wp2_with fail
  refine hK.out _ _ (hHeld) (fun hHeld => ?_)
  clear hK K
  try simp only [Act.put, List.setIfInBounds_toArray, List.set_cons_zero, List.set_cons_succ]
  refine wpAnyH_take (i := 4) (oi := ⟨some 12, .binOp .rem 23 (.tmp 9) (.tmp 11) 23, 23, "l15_sign.go:94", #[⟨1, .data⟩, ⟨3, .data⟩], none⟩) (v := ?v8) rfl (by kernel_rfl) (by kernel_rfl) (by kernel_rfl) (fun _ _ _ h => h) (Or.inl ⟨by rfl, ?hy8⟩) (by assumption) ?r8
  case hy8 => (intro w hSw; (try dsimp only at hSw); go_simp; try with_reducible rfl)
  try simp only [Act.put, List.setIfInBounds_toArray, List.set_cons_zero, List.set_cons_succ]
  refine wpAnyH_ready (rs := [9]) (by kernel_rfl) (by simp) ?_
  refine AllReadyH.cons (o := ⟨some 17, .call { callee := .value (.func 50), args := #[.tmp 12, .tmp 14, .tmp 16], argTypes := #[23, 23, 23] }, 23, "l15_sign.go:94", #[⟨4, .data⟩, ⟨6, .data⟩, ⟨8, .data⟩, ⟨1, .chain⟩], none⟩) rfl (fun K hK => ?_) AllReadyH.nil
  go_simp
  go_at_call 50
  refine (HP.out _).mono ?_
  rintro e w2 ⟨rfl, hl2⟩
  have hb2 := (HB1.out _).drew.trans (hl2.mono (HB1.out _).drew.size)
  try go_wp2_with fail
  refine hK.out _ _ (HK.out _ hl2) (fun hHeld => ?_)
  clear hK K
  try simp only [Act.put, List.setIfInBounds_toArray, List.set_cons_zero, List.set_cons_succ]
  refine wpAnyH_take (i := 10) (oi := ⟨some 4, .assign (.tmp 17), 23, "l15_sign.go:94", #[⟨9, .data⟩, ⟨9, .chain⟩, ⟨0, .phase⟩, ⟨1, .phase⟩, ⟨2, .phase⟩, ⟨3, .phase⟩, ⟨4, .phase⟩, ⟨5, .phase⟩, ⟨6, .phase⟩, ⟨7, .phase⟩, ⟨8, .phase⟩, ⟨9, .phase⟩], none⟩) (v := ?v9) rfl (by kernel_rfl) (by kernel_rfl) (by kernel_rfl) (fun _ _ _ h => h) (Or.inl ⟨by rfl, ?hy9⟩) (by assumption) ?r9
  case hy9 => (intro w hSw; (try dsimp only at hSw); go_simp; try with_reducible rfl)
  try simp only [Act.put, List.setIfInBounds_toArray, List.set_cons_zero, List.set_cons_succ]
  refine wpAnyH_done (by kernel_rfl) ?_ _
  go_wp2_with fail
  go_ret
  exact ⟨ret_int (by rw [HV.out]), hb2⟩

theorem isign_any (N E D : Nat) (hN : N < 18446744073709551616) (hD : D < 18446744073709551616) (a : Option Addr) (n cap : Nat) (l : List Int) (w : World) (hb : sm.Bs w a n l) (hn : n ≤ 1099511627776) :
    Calls Tryd.prog 29 #[.agg #[.int .u64 (N : Int), .int .u64 (E : Int), .int .u64 (D : Int)], .slice a n cap] w fun e w' => e = .returned (.int .u64 ((sgV N D (SV l n) : Nat) : Int)) ∧ Below w.heap.size w w' := by
  go_enter Tryd.func29, Tryd.ntmps29
  have B1 : ∀ o, Below w.heap.size w (w.alloc o) := fun o => (Below.refl _ _).alloc (Nat.le_refl _) _
  by_cases h0 : N = 0
  · have e : sgV N D (SV l n) = 0 := by unfold sgV; rw [if_pos h0]
    rw [e]
    subst h0
    clear hN hD
    go_wp2
    go_ret
    exact ⟨rfl, B1 _⟩
  have hz : ((N : Int) == 0) = false := by simp; omega
  have hz' : ¬ N = 0 := h0
  obtain ⟨S, hS⟩ : ∃ S, S = SV l n := ⟨_, rfl⟩
  obtain ⟨R, hR⟩ : ∃ R, R = S % N := ⟨_, rfl⟩
  have e1 : (S : Int) % (N : Int) = (R : Int) := by rw [hR, Int.natCast_emod]
  have lR : R < 18446744073709551616 := by have := Nat.mod_lt S (show 0 < N by omega); omega
  have HS : Hid (∀ W, Below w.heap.size w W → Calls Tryd.prog 55 #[.slice a n cap] W fun e w' => e = .returned (.int .u64 (S : Int)) ∧ w' = W) := fun W h => by
    have := isum_any a n cap l W (hb.below h) hn
    rwa [← hS] at this
  have HP : Hid (∀ W, Calls Tryd.prog 54 #[.int .u64 ((S : Int) % (N : Int)), .int .u64 (D : Int), .int .u64 (N : Int)] W fun e w' => e = .returned (.int .u64 ((pm R D N : Nat) : Int)) ∧ Below W.heap.size W w') := fun W => by
    rw [e1]
    exact ipow_b R D N lR hD hN W
  have HV : Hid (sgV N D (SV l n) = pm R D N) := by show _ = _; unfold sgV; rw [if_neg h0, ← hS, ← hR]
  have HB1 : Hid (∀ o, Below w.heap.size w (w.alloc o)) := B1
  obtain ⟨W1, hW1⟩ : ∃ W1 : World, W1 = (w.alloc (.cells #[.int .u64 (N : Int), .int .u64 (E : Int), .int .u64 (D : Int)] 35)).drew := ⟨_, rfl⟩
  have HK : Hid (∀ W, Below W1.heap.size W1 W → W.cell? ⟨w.heap.size, 0, none⟩ = some (.int .u64 (N : Int)) ∧ W.cell? ⟨w.heap.size, 2, none⟩ = some (.int .u64 (D : Int))) := fun W h => by
    subst hW1
    exact ⟨((bcell h).1 w.heap.size 0 (by simp)).trans (by simp), ((bcell h).1 w.heap.size 2 (by simp)).trans (by simp)⟩
  subst hW1
  clear hN hD hb hn hS hR lR B1 h0 e1
  go_wp2_with fail
  refine wp_region_held_drew (S := (fun W => W.cell? ⟨w.heap.size, 0, none⟩ = some (.int .u64 (N : Int)) ∧ W.cell? ⟨w.heap.size, 2, none⟩ = some (.int .u64 (D : Int)))) (by kernel_rfl) (HK.out _ (Below.refl _ _)) (fun hHeld => ?_)
  refine wpAnyH_take (i := 0) (oi := ⟨some 8, .move (.tmp 1), 46, "l15_sign.go:107", #[], none⟩) (v := ?v10) rfl (by kernel_rfl) (by kernel_rfl) (by kernel_rfl) (fun _ _ _ h => h) (Or.inl ⟨by rfl, ?hy10⟩) (by assumption) ?r10
  case hy10 => (intro w hSw; (try dsimp only at hSw); go_simp; try with_reducible rfl)
  try simp only [Act.put, List.setIfInBounds_toArray, List.set_cons_zero, List.set_cons_succ]
  refine wpAnyH_take (i := 2) (oi := ⟨some 10, .fieldAddr 35 (.tmp 2) 0, 0, "l15_sign.go:107", #[], none⟩) (v := ?v11) rfl (by kernel_rfl) (by kernel_rfl) (by kernel_rfl) (fun _ _ _ h => h) (Or.inl ⟨by rfl, ?hy11⟩) (by assumption) ?r11
  case hy11 => (intro w hSw; (try dsimp only at hSw); go_simp; try with_reducible rfl)
  try simp only [Act.put, List.setIfInBounds_toArray, List.set_cons_zero, List.set_cons_succ]
  refine wpAnyH_take (i := 3) (oi := ⟨some 11, .load 23 (.tmp 10), 23, "l15_sign.go:107", #[⟨2, .data⟩], none⟩) (v := ?v12) rfl (by kernel_rfl) (by kernel_rfl) (by kernel_rfl) (fun _ _ _ h => h) (Or.inl ⟨by rfl, ?hy12⟩) (by assumption) ?r12
  case hy12 => (intro w hSw; (try dsimp only at hSw); go_simp; try with_reducible rfl)
  try simp only [Act.put, List.setIfInBounds_toArray, List.set_cons_zero, List.set_cons_succ]
  refine wpAnyH_take (i := 5) (oi := ⟨some 13, .fieldAddr 35 (.tmp 2) 2, 0, "l15_sign.go:107", #[], none⟩) (v := ?v13) rfl (by kernel_rfl) (by kernel_rfl) (by kernel_rfl) (fun _ _ _ h => h) (Or.inl ⟨by rfl, ?hy13⟩) (by assumption) ?r13
  case hy13 => (intro w hSw; (try dsimp only at hSw); go_simp; try with_reducible rfl)
  try simp only [Act.put, List.setIfInBounds_toArray, List.set_cons_zero, List.set_cons_succ]
  refine wpAnyH_take (i := 6) (oi := ⟨some 14, .load 23 (.tmp 13), 23, "l15_sign.go:107", #[⟨5, .data⟩], none⟩) (v := ?v14) rfl (by kernel_rfl) (by kernel_rfl) (by kernel_rfl) (fun _ _ _ h => h) (Or.inl ⟨by rfl, ?hy14⟩) (by assumption) ?r14
  case hy14 => (intro w hSw; (try dsimp only at hSw); go_simp; try with_reducible rfl)
  try simp only [Act.put, List.setIfInBounds_toArray, List.set_cons_zero, List.set_cons_succ]
  refine wpAnyH_take (i := 7) (oi := ⟨some 15, .fieldAddr 35 (.tmp 2) 0, 0, "l15_sign.go:107", #[], none⟩) (v := ?v15) rfl (by kernel_rfl) (by kernel_rfl) (by kernel_rfl) (fun _ _ _ h => h) (Or.inl ⟨by rfl, ?hy15⟩) (by assumption) ?r15
  case hy15 => (intro w hSw; (try dsimp only at hSw); go_simp; try with_reducible rfl)
  try simp only [Act.put, List.setIfInBounds_toArray, List.set_cons_zero, List.set_cons_succ]
  refine wpAnyH_take (i := 8) (oi := ⟨some 16, .load 23 (.tmp 15), 23, "l15_sign.go:107", #[⟨7, .data⟩], none⟩) (v := ?v16) rfl (by kernel_rfl) (by kernel_rfl) (by kernel_rfl) (fun _ _ _ h => h) (Or.inl ⟨by rfl, ?hy16⟩) (by assumption) ?r16
  case hy16 => (intro w hSw; (try dsimp only at hSw); go_simp; try with_reducible rfl)
  try simp only [Act.put, List.setIfInBounds_toArray, List.set_cons_zero, List.set_cons_succ]
  refine wpAnyH_ready (rs := [1]) (by kernel_rfl) (by simp) ?_
  refine AllReadyH.cons (o := ⟨some 9, .call { callee := .value (.func 55), args := #[.tmp 8], argTypes := #[46] }, 23, "l15_sign.go:107", #[⟨0, .data⟩], none⟩) rfl (fun K hK => ?_) AllReadyH.nil
  go_simp
  go_at_call 55
  refine (HS.out _ (HB1.out _).drew).mono ?_
  rintro e wx ⟨rfl, hw⟩
  obtain rfl := hw.symm
  clear hw
  try go_wp2_with fail
  refine hK.out _ _ (hHeld) (fun hHeld => ?_)
  clear hK K
  try simp only [Act.put, List.setIfInBounds_toArray, List.set_cons_zero, List.set_cons_succ]
  refine wpAnyH_take (i := 4) (oi := ⟨some 12, .binOp .rem 23 (.tmp 9) (.tmp 11) 23, 23, "l15_sign.go:107", #[⟨1, .data⟩, ⟨3, .data⟩], none⟩) (v := ?v17) rfl (by kernel_rfl) (by kernel_rfl) (by kernel_rfl) (fun _ _ _ h => h) (Or.inl ⟨by rfl, ?hy17⟩) (by assumption) ?r17
  case hy17 => (intro w hSw; (try dsimp only at hSw); go_simp; try with_reducible rfl)
  try simp only [Act.put, List.setIfInBounds_toArray, List.set_cons_zero, List.set_cons_succ]
  refine wpAnyH_ready (rs := [9]) (by kernel_rfl) (by simp) ?_
  refine AllReadyH.cons (o := ⟨some 17, .call { callee := .value (.func 54), args := #[.tmp 12, .tmp 14, .tmp 16], argTypes := #[23, 23, 23] }, 23, "l15_sign.go:107", #[⟨4, .data⟩, ⟨6, .data⟩, ⟨8, .data⟩, ⟨1, .chain⟩], none⟩) rfl (fun K hK => ?_) AllReadyH.nil
  go_simp
  go_at_call 54
  refine (HP.out _).mono ?_
  rintro e w2 ⟨rfl, hl2⟩
  have hb2 := (HB1.out _).drew.trans (hl2.mono (HB1.out _).drew.size)
  try go_wp2_with fail
  refine hK.out _ _ (HK.out _ hl2) (fun hHeld => ?_)
  clear hK K
  try simp only [Act.put, List.setIfInBounds_toArray, List.set_cons_zero, List.set_cons_succ]
  refine wpAnyH_take (i := 10) (oi := ⟨some 4, .assign (.tmp 17), 23, "l15_sign.go:107", #[⟨9, .data⟩, ⟨9, .chain⟩, ⟨0, .phase⟩, ⟨1, .phase⟩, ⟨2, .phase⟩, ⟨3, .phase⟩, ⟨4, .phase⟩, ⟨5, .phase⟩, ⟨6, .phase⟩, ⟨7, .phase⟩, ⟨8, .phase⟩, ⟨9, .phase⟩], none⟩) (v := ?v18) rfl (by kernel_rfl) (by kernel_rfl) (by kernel_rfl) (fun _ _ _ h => h) (Or.inl ⟨by rfl, ?hy18⟩) (by assumption) ?r18
  case hy18 => (intro w hSw; (try dsimp only at hSw); go_simp; try with_reducible rfl)
  try simp only [Act.put, List.setIfInBounds_toArray, List.set_cons_zero, List.set_cons_succ]
  refine wpAnyH_done (by kernel_rfl) ?_ _
  go_wp2_with fail
  go_ret
  exact ⟨ret_int (by rw [HV.out]), hb2⟩

end Go.Proofs.YtheponigjofknaaDoor.sg
