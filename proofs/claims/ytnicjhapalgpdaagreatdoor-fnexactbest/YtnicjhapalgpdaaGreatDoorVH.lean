import Derived.Test.YtnicjhapalgpdaaGreatDoorVG
namespace Go.Proofs.YtnicjhapalgpdaaGreatDoor.vr
open Go.ChangeShapes Go.WideShapes Go.ChangeAt Go.RowKit Go.Deep Go.Shelf
set_option linter.unusedVariables false
set_option linter.unusedSimpArgs false

theorem or_new (a b c : Int) (g : Nat) (w : World) (hg : g = w.heap.size) :
    Calls Tryz.prog 60 #[.slice (some ⟨g, 0, none⟩) 3 3] (w.alloc (.cells #[.int .i64 a, .int .i64 b, .int .i64 c] 3)) fun e w' => e = .returned (.int .i64 (orI a b c)) ∧ w' = w.alloc (.cells #[.int .i64 a, .int .i64 b, .int .i64 c] 3) := by
  subst hg
  obtain ⟨k0, k1, k2⟩ := three_lit w (.int .i64 a) (.int .i64 b) (.int .i64 c) 3
  exact or_any a b c _ _ k0 k1 k2

set_option maxHeartbeats 2000000 in
set_option maxRecDepth 100000 in
theorem pcompare_any (x y x' y' : Int) (z z' : ByteArray) (w : World) :
    Calls Tryz.prog 53 #[.agg #[.int .i64 x, .int .i64 y, .string z], .agg #[.int .i64 x', .int .i64 y', .string z']] w fun e w' => e = .returned (.int .i64 (orI (cmpZ x x') (cmpZ y y') (cmpL z.data.toList z'.data.toList))) ∧ Below w.heap.size w w' := by
  have HG : Hid (w.heap.size + 1 + 1 = ((w.alloc (.cells #[.int .i64 x, .int .i64 y, .string z] 73)).alloc (.cells #[.int .i64 x', .int .i64 y', .string z'] 73)).drew.heap.size) := by show _ = _; simp
  go_enter Tryz.func53, Tryz.ntmps53
  go_wp2_with fail
  go_region_held3 (fun w' => (w'.cell? ⟨w.heap.size, 0, none⟩ = some (.int .i64 x) ∧ w'.cell? ⟨w.heap.size, 1, none⟩ = some (.int .i64 y) ∧ w'.cell? ⟨w.heap.size, 2, none⟩ = some (.string z)) ∧ (w'.cell? ⟨w.heap.size + 1, 0, none⟩ = some (.int .i64 x') ∧ w'.cell? ⟨w.heap.size + 1, 1, none⟩ = some (.int .i64 y') ∧ w'.cell? ⟨w.heap.size + 1, 2, none⟩ = some (.string z')))
    (first | go_keep | (simp [go_sem]))
    (first
      | ((go_at_call 61; refine (compareI _ _ _).mono ?_; rintro e w1 ⟨rfl, hw1⟩; obtain rfl := hw1.symm; clear hw1))
      | ((go_at_call 62; refine (compareL _ _ _).mono ?_; rintro e w1 ⟨rfl, hw1⟩; obtain rfl := hw1.symm; clear hw1))
      | ((go_at_call 63; refine (compareS _ _ _).mono ?_; rintro e w1 ⟨rfl, hw1⟩; obtain rfl := hw1.symm; clear hw1))
      | ((go_at_call 60; refine (or_new (cmpZ x x') (cmpZ y y') (cmpL z.data.toList z'.data.toList) (w.heap.size + 1 + 1) ((w.alloc (.cells #[.int .i64 x, .int .i64 y, .string z] 73)).alloc (.cells #[.int .i64 x', .int .i64 y', .string z'] 73)).drew HG.out).mono ?_; rintro e w1 ⟨rfl, hw1⟩; obtain rfl := hw1.symm; clear hw1)))
  go_wp2_with fail
  go_ret
  exact ⟨rfl, ((((Below.refl _ _).alloc (Nat.le_refl _) _).alloc (by simp) _).drew).alloc (by simp; omega) _⟩

set_option maxHeartbeats 2000000 in
set_option maxRecDepth 100000 in
theorem vcompare_any (A B : List Pt) (va vb : Value) (w : World) (hA : RowI w va A) (hB : RowI w vb B) (hnA : A.length ≤ 100) (hnB : B.length ≤ 100) :
    Calls Tryz.prog 41 #[va, vb] w fun e w' => e = .returned (.int .i64 (cmpP A B)) ∧ Below w.heap.size w w' := by
  have HA : Hid (∀ (i : Nat) wr, i ≤ 1000 → Below w.heap.size w wr → Calls Tryz.prog 42 #[va, .int .i64 (i : Int)] wr fun e w' => e = .returned (optI A[i]?) ∧ Below wr.heap.size wr w') := fun i wr hi hb => part_any A i va wr (hA.below hb) (by omega) hi
  have HB : Hid (∀ (i : Nat) wr, i ≤ 1000 → Below w.heap.size w wr → Calls Tryz.prog 42 #[vb, .int .i64 (i : Int)] wr fun e w' => e = .returned (optI B[i]?) ∧ Below wr.heap.size wr w') := fun i wr hi hb => part_any B i vb wr (hB.below hb) (by omega) hi
  obtain ⟨a, cap, rfl, _, _⟩ := hA
  obtain ⟨b, cap', rfl, _, _⟩ := hB
  go_enter Tryz.func41, Tryz.ntmps41
  go_wp2
  go_loopw [5, 11] (fun _ r wr => ∃ i : Nat, r = .int .i64 (i : Int) ∧ (i : Int) ≤ max (A.length : Int) (B.length : Int) ∧ cmpP A B = cmpP (A.drop i) (B.drop i) ∧ Below w.heap.size w wr) (fun _ r _ => (max (A.length : Int) (B.length : Int)).toNat - (intOf r).toNat)
  case atStart => exact ⟨0, rfl, by omega, by simp, Below.refl _ _⟩
  case round =>
    obtain ⟨i, rfl, hi, hcm, hbel⟩ := hrel
    have hsz := hbel.size
    have HC : Hid (cmpP A B = cmpP (A.drop i) (B.drop i)) := hcm
    clear hcm
    by_cases hlt : (i : Int) < max (A.length : Int) (B.length : Int)
    · obtain ⟨x, y, z, hx⟩ := optI_form A[i]?
      obtain ⟨x', y', z', hx'⟩ := optI_form B[i]?
      have PA : Hid (∀ wr, Below w.heap.size w wr → Calls Tryz.prog 42 #[.slice a A.length cap, .int .i64 (i : Int)] wr fun e w' => e = .returned (.agg #[.int .i64 x, .int .i64 y, .string z]) ∧ Below wr.heap.size wr w') := fun wr hb => by have := HA.out i wr (by omega) hb; rwa [hx] at this
      have PB : Hid (∀ wr, Below w.heap.size w wr → Calls Tryz.prog 42 #[.slice b B.length cap', .int .i64 (i : Int)] wr fun e w' => e = .returned (.agg #[.int .i64 x', .int .i64 y', .string z']) ∧ Below wr.heap.size wr w') := fun wr hb => by have := HB.out i wr (by omega) hb; rwa [hx'] at this
      have HOR := optI_or hx hx'
      have F1 : Hid True := trivial
      have F2 : Hid True := trivial
      have F3 : Hid True := trivial
      have F4 : Hid True := trivial
      by_cases hq : A[i]? = B[i]?
      · rw [hq] at hx
        obtain ⟨rfl, rfl, rfl⟩ := agg3 (hx.symm.trans hx')
        have HE : Hid (cmpP (A.drop i) (B.drop i) = cmpP (A.drop (i + 1)) (B.drop (i + 1))) := cmpP_eq A B i (cmpO_zero.2 hq)
        clear hx hx' HOR hq
        go_wp2_with (first
          | (go_at_call 42; have := F1.out; refine (PA.out _ hbel).mono ?_; rintro e w1 ⟨rfl, hl1⟩; have hb1 := hbel.trans (hl1.mono hsz); clear F1)
          | (go_at_call 42; have := F2.out; refine (PB.out _ hb1).mono ?_; rintro e w2 ⟨rfl, hl2⟩; have hb2 := hb1.trans (hl2.mono hb1.size); clear F2))
        go_roundw
        case rel => exact ⟨i + 1, by go_num, by omega, by rw [HC.out, HE.out], hb2⟩
        case measure => simp [intOf]; omega
      · have HE : Hid (cmpP A B = orI (cmpZ x x') (cmpZ y y') (cmpL z.data.toList z'.data.toList)) := by show _ = _; rw [HC.out, HOR]; exact cmpP_ne A B i (fun h => hq (cmpO_zero.1 h))
        have hne : ¬ (x = x' ∧ y = y' ∧ z = z') := by
          rintro ⟨rfl, rfl, rfl⟩
          have z0 : ∀ a, cmpZ a a = 0 := by intro a; unfold cmpZ; rw [if_neg (by omega), if_neg (by omega)]
          rw [z0, z0, cmpL_zero.2 rfl] at HOR
          exact hq (cmpO_zero.1 HOR.symm)
        clear hx hx' HOR hq
        go_wp2_with (first
          | (go_at_call 42; have := F1.out; refine (PA.out _ hbel).mono ?_; rintro e w1 ⟨rfl, hl1⟩; have hb1 := hbel.trans (hl1.mono hsz); clear F1)
          | (go_at_call 42; have := F2.out; refine (PB.out _ hb1).mono ?_; rintro e w2 ⟨rfl, hl2⟩; have hb2 := hb1.trans (hl2.mono hb1.size); clear F2)
          | (go_at_call 42; have := F3.out; refine (PA.out _ hb2).mono ?_; rintro e w3 ⟨rfl, hl3⟩; have hb3 := hb2.trans (hl3.mono hb2.size); clear F3)
          | (go_at_call 42; have := F4.out; refine (PB.out _ hb3).mono ?_; rintro e w4 ⟨rfl, hl4⟩; have hb4 := hb3.trans (hl4.mono hb3.size); clear F4)
          | (go_at_call 53; refine (pcompare_any _ _ _ _ _ _ _).mono ?_; rintro e w5 ⟨rfl, hl5⟩; have hb5 := hb4.trans (hl5.mono hb4.size)))
        all_goals first
          | (subst_vars; go_ret; exact ⟨ret_int HE.out.symm, hb5⟩)
          | (exfalso; rename_i h1 h2 h3; exact hne ⟨h1, h2, by apply ByteArray.ext; rw [ByteArray.toList_eq, ByteArray.toList_eq] at h3; exact Array.toList_inj.1 h3⟩)
    · go_wp2
      go_ret
      refine ⟨ret_int ?_, hbel⟩
      rw [HC.out, List.drop_eq_nil_of_le (by omega), List.drop_eq_nil_of_le (by omega)]
      rfl

end Go.Proofs.YtnicjhapalgpdaaGreatDoor.vr
