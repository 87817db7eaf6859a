import Derived.Test.YtclkgcahlemefaaDoorVQ
import Derived.Deep.RegionWith
namespace Go.Proofs.YtclkgcahlemefaaDoor.vr
open Go.ChangeShapes Go.WideShapes Go.ChangeAt Go.RowKit Go.Deep
set_option linter.unusedVariables false
set_option linter.unusedSimpArgs false

theorem mkC {u v : ByteArray} {k : Int} (hu : u.size ≤ 1048576) (hv : v.size ≤ 1048576) (h : cmpV u.data.toList v.data.toList = k) : ∀ W, Calls Tryd.prog 6 #[.string u, .string v] W fun e w' => e = .returned (.int .i64 k) ∧ Below W.heap.size W w' := fun W => by
  have := icmp_any u v hu hv W
  rwa [h] at this
theorem mkV {u : ByteArray} {b : Bool} (hu : u.size ≤ 1048576) (h : (ver u.data.toList).isSome = b) : ∀ W, Calls Tryd.prog 7 #[.string u] W fun e w' => e = .returned (.bool b) ∧ Below W.heap.size W w' := fun W => by
  have := sok_any u hu W
  rwa [h] at this

set_option maxHeartbeats 8000000 in
set_option maxRecDepth 100000 in
theorem order_walk (a : Option Addr) (n cap : Nat) (a' : Option Addr) (n' cap' : Nat) (w : World) (hb : dr.CodeB w a n) (hlt : ∀ x, a = some x → 0 < n → x.block < w.heap.size) (hb' : dr.CodeB w a' n') (hlt' : ∀ x, a' = some x → 0 < n' → x.block < w.heap.size) :
    Calls Tryd.prog 3 #[.slice a n cap, .slice a' n' cap'] w fun e w' => e = .returned (.bool true) ∧ Below w.heap.size w w' := by
  by_cases hn : n ≤ 1048576
  · have hd : decide (1048576 < (n : Int)) = false := by simpa using (by omega : ¬ (1048576 : Int) < (n : Int))
    by_cases hn' : n' ≤ 1048576
    · have hd' : decide (1048576 < (n' : Int)) = false := by simpa using (by omega : ¬ (1048576 : Int) < (n' : Int))
      have F1 : Hid True := trivial
      have H1 : Hid (∀ W, Calls Tryd.prog 6 #[.string ⟨#[49, 46, 50]⟩, .string ⟨#[49, 46, 49, 48]⟩] W fun e w' => e = .returned (.int .i64 (-1)) ∧ Below W.heap.size W w') := mkC (by decide) (by decide) first_one
      have H2 : Hid (∀ W, Calls Tryd.prog 6 #[.string ⟨#[]⟩, .string ⟨#[49]⟩] W fun e w' => e = .returned (.int .i64 2) ∧ Below W.heap.size W w') := mkC (by decide) (by decide) first_two
      have G1 : Hid True := trivial
      go_enter Tryd.func3, Tryd.ntmps3
      go_wp2_with (first
        | (go_at_call 4; refine (dr.big_any _ _ _ _).mono ?_; rintro e wx ⟨rfl, hw⟩; obtain rfl := hw.symm; clear hw)
        | (go_at_call 5; have := F1.out; refine (dr.drawCmp a n cap w hb hn hlt).mono ?_; rintro e w1 ⟨s, t, rfl, hs, ht, b1⟩; clear F1; have hb1 := dr.code_kept hb' b1; have hlt1 : ∀ x, a' = some x → 0 < n' → x.block < w1.heap.size := (fun x e h => Nat.lt_of_lt_of_le (hlt' x e h) b1.size))
        | (go_at_call 5; refine (dr.drawCmp a' n' cap' w1 hb1 hn' hlt1).mono ?_; rintro e w2 ⟨x, y, rfl, hx, hy, b2⟩; have hB := b1.trans (b2.mono b1.size))
        | (go_at_call 6; have := G1.out; refine (H1.out _).mono ?_; rintro e w3 ⟨rfl, hl3⟩; replace hB := hB.trans (hl3.mono hB.size); clear hl3 G1)
        | (go_at_call 6; refine (H2.out _).mono ?_; rintro e w4 ⟨rfl, hl4⟩; replace hB := hB.trans (hl4.mono hB.size); clear hl4; refine Hid.out ?_))
      refine Lib.hid ?_
      have hs' : s.size ≤ 1048576 := by omega
      have ht' : t.size ≤ 1048576 := by omega
      have hx' : x.size ≤ 1048576 := by omega
      clear hb hb' hlt hlt' b1 b2 hb1 hlt1 H1 H2
      have V1 : Hid True := trivial
      have V2 : Hid True := trivial
      cases hvs : ver s.data.toList with
      | none =>
        have VS : Hid (∀ W, Calls Tryd.prog 7 #[.string s] W fun e w' => e = .returned (.bool false) ∧ Below W.heap.size W w') := mkV hs' (by rw [hvs]; rfl)
        go_wp2_with (go_at_call 7; refine (VS.out _).mono ?_; rintro e w5 ⟨rfl, hl5⟩)
        go_ret
        exact ⟨rfl, hB.trans (hl5.mono hB.size)⟩
      | some ps =>
        have VS : Hid (∀ W, Calls Tryd.prog 7 #[.string s] W fun e w' => e = .returned (.bool true) ∧ Below W.heap.size W w') := mkV hs' (by rw [hvs]; rfl)
        cases hvt : ver t.data.toList with
        | none =>
          have VT : Hid (∀ W, Calls Tryd.prog 7 #[.string t] W fun e w' => e = .returned (.bool false) ∧ Below W.heap.size W w') := mkV ht' (by rw [hvt]; rfl)
          clear hvs hvt
          go_wp2_with (first
            | (go_at_call 7; have := V1.out; refine (VS.out _).mono ?_; rintro e w5 ⟨rfl, hl5⟩; replace hB := hB.trans (hl5.mono hB.size); clear V1)
            | (go_at_call 7; refine (VT.out _).mono ?_; rintro e w6 ⟨rfl, hl6⟩))
          go_ret
          exact ⟨rfl, hB.trans (hl6.mono hB.size)⟩
        | some qs =>
          have VT : Hid (∀ W, Calls Tryd.prog 7 #[.string t] W fun e w' => e = .returned (.bool true) ∧ Below W.heap.size W w') := mkV ht' (by rw [hvt]; rfl)
          cases hvx : ver x.data.toList with
          | none =>
            have VX : Hid (∀ W, Calls Tryd.prog 7 #[.string x] W fun e w' => e = .returned (.bool false) ∧ Below W.heap.size W w') := mkV hx' (by rw [hvx]; rfl)
            clear hvs hvt hvx
            go_wp2_with (first
              | (go_at_call 7; have := V1.out; refine (VS.out _).mono ?_; rintro e w5 ⟨rfl, hl5⟩; replace hB := hB.trans (hl5.mono hB.size); clear V1)
              | (go_at_call 7; have := V2.out; refine (VT.out _).mono ?_; rintro e w6 ⟨rfl, hl6⟩; replace hB := hB.trans (hl6.mono hB.size); clear V2)
              | (go_at_call 7; refine (VX.out _).mono ?_; rintro e w7 ⟨rfl, hl7⟩))
            go_ret
            exact ⟨rfl, hB.trans (hl7.mono hB.size)⟩
          | some rs =>
            have VX : Hid (∀ W, Calls Tryd.prog 7 #[.string x] W fun e w' => e = .returned (.bool true) ∧ Below W.heap.size W w') := mkV hx' (by rw [hvx]; rfl)
            go_wp2_with (first
              | (go_at_call 7; have := V1.out; refine (VS.out _).mono ?_; rintro e w5 ⟨rfl, hl5⟩; replace hB := hB.trans (hl5.mono hB.size); clear V1)
              | (go_at_call 7; have := V2.out; refine (VT.out _).mono ?_; rintro e w6 ⟨rfl, hl6⟩; replace hB := hB.trans (hl6.mono hB.size); clear V2)
              | (go_at_call 7; refine (VX.out _).mono ?_; rintro e w7 ⟨rfl, hl7⟩; replace hB := hB.trans (hl7.mono hB.size); refine Hid.out ?_))
            refine Lib.hid ?_
            have HK1 : Hid (cmpP ps qs ≤ 0 ∧ cmpP qs rs ≤ 0 → ¬ 0 < cmpP ps rs) := fun h => by have := cmpP_trans h.1 h.2; omega
            have HK2 : Hid (cmpP ps qs = 0 ∧ cmpP qs rs = 0 → cmpP ps rs = 0) := fun h => by rw [cmpP_zero h.1, h.2]
            have CAB0 := mkC hs' ht' (cmpV_yes hvs hvt)
            have CBA0 := mkC ht' hs' ((cmpV_yes hvt hvs).trans (cmpP_anti qs ps))
            have CAA : Hid (∀ W, Calls Tryd.prog 6 #[.string s, .string s] W fun e w' => e = .returned (.int .i64 0) ∧ Below W.heap.size W w') := mkC hs' hs' ((cmpV_yes hvs hvs).trans (cmpP_refl ps))
            have CBX0 := mkC ht' hx' (cmpV_yes hvt hvx)
            have CAX0 := mkC hs' hx' (cmpV_yes hvs hvx)
            have C00 : s.size + 2 ≤ 30 → ∀ W, Calls Tryd.prog 6 #[.string (s ++ ⟨#[46, 48]⟩), .string s] W fun e w' => e = .returned (.int .i64 1) ∧ Below W.heap.size W w' := fun h => mkC (by rw [dr.size_app]; have : (⟨#[46, 48]⟩ : ByteArray).size = 2 := rfl; omega) hs' (by rw [app_data]; exact newer hvs (by rw [lenS]; exact h))
            have CA0 : s.size + 2 ≤ 30 → ∀ W, Calls Tryd.prog 6 #[.string (s ++ ⟨#[45, 97]⟩), .string s] W fun e w' => e = .returned (.int .i64 (-1)) ∧ Below W.heap.size W w' := fun h => mkC (by rw [dr.size_app]; have : (⟨#[45, 97]⟩ : ByteArray).size = 2 := rfl; omega) hs' (by rw [app_data]; exact older hvs (by rw [lenS]; exact h))
            have hc1 := cmpP_cases ps qs
            have hc2 := cmpP_cases qs rs
            clear hvs hvt hvx VS VT VX hl7
            have hsl : ¬ 9223372036854775807 < s.size + 2 := by omega
            generalize cmpP ps qs = ab at *
            generalize cmpP qs rs = bx at *
            generalize cmpP ps rs = ax at *
            have CAB : Hid (∀ W, Calls Tryd.prog 6 #[.string s, .string t] W fun e w' => e = .returned (.int .i64 ab) ∧ Below W.heap.size W w') := CAB0
            have CBA : Hid (∀ W, Calls Tryd.prog 6 #[.string t, .string s] W fun e w' => e = .returned (.int .i64 (-ab)) ∧ Below W.heap.size W w') := CBA0
            have CBX : Hid (∀ W, Calls Tryd.prog 6 #[.string t, .string x] W fun e w' => e = .returned (.int .i64 bx) ∧ Below W.heap.size W w') := CBX0
            have CAX : Hid (∀ W, Calls Tryd.prog 6 #[.string s, .string x] W fun e w' => e = .returned (.int .i64 ax) ∧ Below W.heap.size W w') := CAX0
            clear CAB0 CBA0 CBX0 CAX0
            have M1 : Hid True := trivial
            have M2 : Hid True := trivial
            have M3 : Hid True := trivial
            by_cases h28 : s.size + 2 ≤ 30
            · have h28' : ¬ (30 : Int) < (s.size : Int) + 2 := by omega
              have C0 : Hid (∀ W, Calls Tryd.prog 6 #[.string (s ++ ⟨#[46, 48]⟩), .string s] W fun e w' => e = .returned (.int .i64 1) ∧ Below W.heap.size W w') := C00 h28
              have CA : Hid (∀ W, Calls Tryd.prog 6 #[.string (s ++ ⟨#[45, 97]⟩), .string s] W fun e w' => e = .returned (.int .i64 (-1)) ∧ Below W.heap.size W w') := CA0 h28
              clear C00 CA0
              have N1 : Hid True := trivial
              rcases hc1 with rfl | rfl | rfl <;> rcases hc2 with rfl | rfl | rfl
              all_goals (
                first
                  | (have hk2 : ax = 0 := HK2.out ⟨rfl, rfl⟩; subst hk2)
                  | (have hk1 : ¬ 0 < ax := HK1.out ⟨by omega, by omega⟩)
                  | skip
                clear HK1 HK2
                go_wp2_with (first
                  | (go_at_call 6; have := M1.out; refine (CAB.out _).mono ?_; rintro e w8 ⟨rfl, hl8⟩; replace hB := hB.trans (hl8.mono hB.size); clear hl8 M1)
                  | (go_at_call 6; have := M2.out; refine (CBA.out _).mono ?_; rintro e w8 ⟨rfl, hl8⟩; replace hB := hB.trans (hl8.mono hB.size); clear hl8 M2)
                  | (go_at_call 6; have := M3.out; refine (CAA.out _).mono ?_; rintro e w8 ⟨rfl, hl8⟩; replace hB := hB.trans (hl8.mono hB.size); clear hl8 M3; refine Hid.out ?_))
                refine Lib.hid ?_
                have M4 : Hid True := trivial
                go_wp2_with (first
                  | (go_at_call_of 6 (Value.string x); have := M4.out; refine (CBX.out _).mono ?_; rintro e w8 ⟨rfl, hl8⟩; replace hB := hB.trans (hl8.mono hB.size); clear hl8 M4)
                  | (go_at_call_of 6 (Value.string x); refine (CAX.out _).mono ?_; rintro e w8 ⟨rfl, hl8⟩; replace hB := hB.trans (hl8.mono hB.size); clear hl8)
                  | (go_at_call 6; have := N1.out; refine (C0.out _).mono ?_; rintro e w8 ⟨rfl, hl8⟩; replace hB := hB.trans (hl8.mono hB.size); clear hl8 N1)
                  | (go_at_call 6; refine (CA.out _).mono ?_; rintro e w8 ⟨rfl, hl8⟩; replace hB := hB.trans (hl8.mono hB.size); clear hl8))
                go_ret
                exact ⟨rfl, hB⟩)
            · have h28' : (30 : Int) < (s.size : Int) + 2 := by omega
              clear C00 CA0
              rcases hc1 with rfl | rfl | rfl <;> rcases hc2 with rfl | rfl | rfl
              all_goals (
                first
                  | (have hk2 : ax = 0 := HK2.out ⟨rfl, rfl⟩; subst hk2)
                  | (have hk1 : ¬ 0 < ax := HK1.out ⟨by omega, by omega⟩)
                  | skip
                clear HK1 HK2
                go_wp2_with (first
                  | (go_at_call 6; have := M1.out; refine (CAB.out _).mono ?_; rintro e w8 ⟨rfl, hl8⟩; replace hB := hB.trans (hl8.mono hB.size); clear hl8 M1)
                  | (go_at_call 6; have := M2.out; refine (CBA.out _).mono ?_; rintro e w8 ⟨rfl, hl8⟩; replace hB := hB.trans (hl8.mono hB.size); clear hl8 M2)
                  | (go_at_call 6; have := M3.out; refine (CAA.out _).mono ?_; rintro e w8 ⟨rfl, hl8⟩; replace hB := hB.trans (hl8.mono hB.size); clear hl8 M3; refine Hid.out ?_))
                refine Lib.hid ?_
                have M4 : Hid True := trivial
                go_wp2_with (first
                  | (go_at_call_of 6 (Value.string x); have := M4.out; refine (CBX.out _).mono ?_; rintro e w8 ⟨rfl, hl8⟩; replace hB := hB.trans (hl8.mono hB.size); clear hl8 M4)
                  | (go_at_call_of 6 (Value.string x); refine (CAX.out _).mono ?_; rintro e w8 ⟨rfl, hl8⟩; replace hB := hB.trans (hl8.mono hB.size); clear hl8))
                go_ret
                exact ⟨rfl, hB⟩)
    · have hd' : decide (1048576 < (n' : Int)) = true := by simpa using (by omega : (1048576 : Int) < (n' : Int))
      go_enter Tryd.func3, Tryd.ntmps3
      go_wp2_with (go_at_call 4; refine (dr.big_any _ _ _ _).mono ?_; rintro e wx ⟨rfl, hw⟩; obtain rfl := hw.symm; clear hw)
      go_ret
      exact ⟨rfl, Below.refl _ _⟩
  · have hd : decide (1048576 < (n : Int)) = true := by simpa using (by omega : (1048576 : Int) < (n : Int))
    go_enter Tryd.func3, Tryd.ntmps3
    go_wp2_with (go_at_call 4; refine (dr.big_any _ _ _ _).mono ?_; rintro e wx ⟨rfl, hw⟩; obtain rfl := hw.symm; clear hw)
    go_ret
    exact ⟨rfl, Below.refl _ _⟩

end Go.Proofs.YtclkgcahlemefaaDoor.vr
