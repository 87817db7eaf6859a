import Derived.Test.YtheponigjofknaaDoorMR
namespace Go.Proofs.YtheponigjofknaaDoor.mt
open Go.ChangeShapes Go.WideShapes Go.ChangeAt Go.RowKit Go.Deep
set_option linter.unusedVariables false
set_option linter.unusedSimpArgs false

theorem two_all {w : World} {v0 v1 v2 v3 v4 v5 k0 k1 k2 : Value} {t u : TypeId} {W0 : World} (hW : W0 = (w.alloc (.cells #[v0, v1, v2, v3, v4, v5] t)).alloc (.cells #[k0, k1, k2] u)) : ∀ W, Below W0.heap.size W0 W → SixC W w.heap.size v0 v1 v2 v3 v4 v5 ∧ W.cell? ⟨w.heap.size + 1, 0, none⟩ = some k0 ∧ W.cell? ⟨w.heap.size + 1, 1, none⟩ = some k1 ∧ W.cell? ⟨w.heap.size + 1, 2, none⟩ = some k2 := fun W h => by
  subst hW
  obtain ⟨q1, q2⟩ := bcell h
  refine ⟨⟨?_, ?_, ?_, ?_, ?_, ?_⟩, ?_, ?_, ?_⟩
  all_goals exact (q1 _ _ (by simp; try omega)).trans (by simp [go_sem])

set_option maxRecDepth 100000 in
set_option maxHeartbeats 8000000 in
theorem sg_law (path sum key name : ByteArray) (z : Int) (sig N E D : Nat) (l : List ByteArray) (a : Option Addr) (n cap : Nat) (w : World) (hb : st.Ss w a n l) (hn : n ≤ maxLen) (hs : ∀ i, i < n → (st.atS l i).size ≤ maxLen) (hp : path.size ≤ maxLen) (hsu : sum.size ≤ maxLen) (hk : key.size ≤ maxLen) (hN : N < 18446744073709551616) (hD : D < 18446744073709551616) (hT : wd.TabB w) (hP : PwT w) :
    Calls Tryd.prog 4 #[.agg #[.string path, .string sum, .int .i64 z, .slice a n cap, .string key, .int .u64 (sig : Int)], .string name, .agg #[.int .u64 (N : Int), .int .u64 (E : Int), .int .u64 (D : Int)]] w fun e w' => e = .returned (.bool true) ∧ Below w.heap.size w w' := by
  obtain ⟨W0, hW0⟩ : ∃ W0 : World, W0 = (w.alloc (.cells #[.string path, .string sum, .int .i64 z, .slice a n cap, .string key, .int .u64 (sig : Int)] 25)).alloc (.cells #[.int .u64 (N : Int), .int .u64 (E : Int), .int .u64 (D : Int)] 33) := ⟨_, rfl⟩
  have hb0 : Below w.heap.size w W0 := by rw [hW0]; exact ((Below.refl _ _).alloc (Nat.le_refl _) _).alloc (by simp) _
  have HBW : Hid (∀ W, Below W0.heap.size W0 W → Below w.heap.size w W) := fun W h => hb0.trans (h.mono hb0.size)
  have HKC : Hid (∀ W, Below W0.heap.size W0 W → (W.cell? ⟨w.heap.size, 0, none⟩ = some (.string path) ∧ W.cell? ⟨w.heap.size, 1, none⟩ = some (.string sum) ∧ W.cell? ⟨w.heap.size, 2, none⟩ = some (.int .i64 z) ∧ W.cell? ⟨w.heap.size, 3, none⟩ = some (.slice a n cap) ∧ W.cell? ⟨w.heap.size, 4, none⟩ = some (.string key) ∧ W.cell? ⟨w.heap.size, 5, none⟩ = some (.int .u64 (sig : Int))) ∧ W.cell? ⟨w.heap.size + 1, 0, none⟩ = some (.int .u64 (N : Int)) ∧ W.cell? ⟨w.heap.size + 1, 1, none⟩ = some (.int .u64 (E : Int)) ∧ W.cell? ⟨w.heap.size + 1, 2, none⟩ = some (.int .u64 (D : Int))) := two_all hW0
  have hs0 : W0.heap.size = w.heap.size + 2 := by rw [hW0]; simp
  by_cases hbig : 1048576 < name.size
  · have hbig' : (1048576 : Int) < (name.size : Int) := by omega
    rw [hW0] at hb0
    clear hb hn hs hp hsu hk hN hD hT hP hs0 HKC HBW
    go_enter Tryd.func4, Tryd.ntmps4
    go_wp2
    go_ret
    exact ⟨rfl, hb0⟩
  have hbig' : ¬ (1048576 : Int) < (name.size : Int) := by omega
  have HSZ : Hid (Calls Tryd.prog 6 #[.agg #[.string path, .string sum, .int .i64 z, .slice a n cap, .string key, .int .u64 (sig : Int)], .int .i64 1048576] W0 fun e w' => ∃ r : Int, e = .returned (.int .i64 r) ∧ (0 ≤ r → SmM path sum key l n) ∧ Below W0.heap.size W0 w') := szM_any path sum key z sig l a n cap W0 (hb.below hb0) hn hs hp hsu hk
  obtain ⟨KN, hK⟩ : ∃ KN, sgK path sum key name z l n = KN := ⟨_, rfl⟩
  obtain ⟨S, hS⟩ : ∃ S, sgS path sum name z l n sig N D = S := ⟨_, rfl⟩
  have HTO' : Hid (SmM path sum key l n → ∀ W, Below w.heap.size w W → Calls Tryd.prog 8 #[.agg #[.string path, .string sum, .int .i64 z, .slice a n cap, .string key, .int .u64 (sig : Int)]] W fun e w' => ∃ g, e = .returned (.agg #[.string path, .string sum, .int .i64 z, .slice (some ⟨g, 0, none⟩) n n, .string key, .int .u64 (sig : Int)]) ∧ W.heap.size ≤ g ∧ RwT w' g n l ∧ Below W.heap.size W w') := fun h W hW => toM_full path sum key z sig l a n cap W (hb.below hW) h.2.2.2.1
  have HSP' : Hid (SmM path sum key l n → ∀ W g, Below w.heap.size w W → RwT W g n l → Calls Tryd.prog 11 #[.agg #[.string path, .string sum, .int .i64 z, .slice (some ⟨g, 0, none⟩) n n, .string key, .int .u64 (sig : Int)], .string name, .agg #[.int .u64 (N : Int), .int .u64 (E : Int), .int .u64 (D : Int)]] W fun e w' => ∃ gw cw, e = .returned (.agg #[.string path, .string sum, .int .i64 z, .slice (some ⟨gw, 0, none⟩) n cw, .string KN, .int .u64 (S : Int)]) ∧ W.heap.size ≤ gw ∧ RwT w' gw n l ∧ Below W.heap.size W w') := fun ⟨h1, h2, h3, h4, h5⟩ W g hB hW => by
    have := ssign_any path sum key name z sig N E D l g n n W hW.2 h4 h5 h1 h2 h3 (by omega) hN hD
    rw [hK, hS] at this
    exact this
  have HIM' : Hid (SmM path sum key l n → ∀ W g, Below w.heap.size w W → RwT W g n l → Calls Tryd.prog 13 #[.agg #[.string path, .string sum, .int .i64 z, .slice (some ⟨g, 0, none⟩) n n, .string key, .int .u64 (sig : Int)], .string name, .agg #[.int .u64 (N : Int), .int .u64 (E : Int), .int .u64 (D : Int)]] W fun e w' => ∃ gw cw, e = .returned (.agg #[.string path, .string sum, .int .i64 z, .slice (some ⟨gw, 0, none⟩) n cw, .string KN, .int .u64 (S : Int)]) ∧ W.heap.size ≤ gw ∧ RwT w' gw n l ∧ Below W.heap.size W w') := fun ⟨h1, h2, h3, h4, h5⟩ W g hB hW => by
    have := isign_any path sum key name z sig N E D l _ n n W hW.2 h4 h5 h1 h2 h3 (by omega) hN hD (hT.below hB) (hP.below hB)
    rw [hK, hS] at this
    exact this.mono fun e w' ⟨g, e1, e2, e3, e4⟩ => ⟨g, n, e1, e2, e3, e4⟩
  have HKY : Hid (∀ W, Calls Tryd.prog 12 #[.agg #[.int .u64 (N : Int), .int .u64 (E : Int), .int .u64 (D : Int)]] W fun e w' => e = .returned (.agg #[.int .u64 (N : Int), .int .u64 (E : Int), .int .u64 (D : Int)]) ∧ Below W.heap.size W w') := fun W => sg.toKey_any N E D W
  have HEQ : Hid (n ≤ 1048576 → ∀ (K' : ByteArray) (S' g g' c c' : Nat) W, RwT W g n l → RwT W g' n l → Calls Tryd.prog 10 #[.agg #[.string path, .string sum, .int .i64 z, .slice (some ⟨g, 0, none⟩) n c, .string K', .int .u64 (S' : Int)], .agg #[.string path, .string sum, .int .i64 z, .slice (some ⟨g', 0, none⟩) n c', .string K', .int .u64 (S' : Int)]] W fun e w' => e = .returned (.bool true) ∧ Below W.heap.size W w') := fun h K' S' g g' c c' W h1 h2 => eqM_any path sum K' z S' l _ _ n c c' W h1.2 h2.2 h
  have HNM : Hid (SmM path sum key l n → n ≤ 1048576) := fun h => h.2.2.2.1
  clear hb hn hs hp hsu hk hN hD hT hP hK hS hb0 hbig
  rw [hW0] at HSZ
  go_enter Tryd.func4, Tryd.ntmps4
  go_wp2_with (first | (go_at_call 6; refine HSZ.out.mono ?_; rintro e w1 ⟨r, rfl, hr, hl1⟩; refine Hid.out ?_) | go_in)
  refine Lib.hid ?_
  rw [← hW0] at hl1
  have HR : Hid (0 ≤ r → SmM path sum key l n) := hr
  have C1 : Below W0.heap.size W0 w1 := hl1
  clear hr hl1 HSZ
  by_cases hr0 : r < 0
  · have B1 := HBW.out _ C1
    go_wp2
    go_ret
    exact ⟨rfl, B1⟩
  have hsm := HR.out (by omega)
  have HN : Hid (n ≤ 1048576) := HNM.out hsm
  have HTO := Lib.hid (HTO'.out hsm)
  have HSP := Lib.hid (HSP'.out hsm)
  have HIM := Lib.hid (HIM'.out hsm)
  clear hsm HTO' HSP' HIM' HNM HR
  have HS0 : Hid (W0.heap.size = w.heap.size + 2) := hs0
  clear hs0
  go_upto_region 7 with fail
  go_cut [8] from 15 (fun p wx => Bx w1 wx p path sum KN z S l n)
  case first =>
    have D0 : Below w1.heap.size w1 w1.drew := (Below.refl _ _).drew
    have HCC : Hid (∀ W, Below w1.heap.size w1 W → Below w.heap.size w W) := fun W h => HBW.out _ (C1.trans (h.mono C1.size))
    have HS : Hid (∀ W, Below w1.heap.size w1 W → (W.cell? ⟨w.heap.size, 0, none⟩ = some (.string path) ∧ W.cell? ⟨w.heap.size, 1, none⟩ = some (.string sum) ∧ W.cell? ⟨w.heap.size, 2, none⟩ = some (.int .i64 z) ∧ W.cell? ⟨w.heap.size, 3, none⟩ = some (.slice a n cap) ∧ W.cell? ⟨w.heap.size, 4, none⟩ = some (.string key) ∧ W.cell? ⟨w.heap.size, 5, none⟩ = some (.int .u64 (sig : Int))) ∧ W.cell? ⟨w.heap.size + 1, 0, none⟩ = some (.int .u64 (N : Int)) ∧ W.cell? ⟨w.heap.size + 1, 1, none⟩ = some (.int .u64 (E : Int)) ∧ W.cell? ⟨w.heap.size + 1, 2, none⟩ = some (.int .u64 (D : Int))) := fun W h => HKC.out _ (C1.trans (h.mono C1.size))
    clear HKC HIM HEQ
    refine wp_region_held_drew (S := (fun W => (W.cell? ⟨w.heap.size, 0, none⟩ = some (.string path) ∧ W.cell? ⟨w.heap.size, 1, none⟩ = some (.string sum) ∧ W.cell? ⟨w.heap.size, 2, none⟩ = some (.int .i64 z) ∧ W.cell? ⟨w.heap.size, 3, none⟩ = some (.slice a n cap) ∧ W.cell? ⟨w.heap.size, 4, none⟩ = some (.string key) ∧ W.cell? ⟨w.heap.size, 5, none⟩ = some (.int .u64 (sig : Int))) ∧ W.cell? ⟨w.heap.size + 1, 0, none⟩ = some (.int .u64 (N : Int)) ∧ W.cell? ⟨w.heap.size + 1, 1, none⟩ = some (.int .u64 (E : Int)) ∧ W.cell? ⟨w.heap.size + 1, 2, none⟩ = some (.int .u64 (D : Int)))) (by kernel_rfl) (HS.out _ D0) (fun hHeld => ?_)
    refine wpAnyH_take (i := 0) (oi := ⟨some 23, .load 25 (.tmp 3), 25, "exact.go:7514", #[], none⟩) (v := ?v7) rfl (by kernel_rfl) (by kernel_rfl) (by kernel_rfl) (fun _ _ _ h => h) (Or.inl ⟨by rfl, ?hy7⟩) (by assumption) ?r7
    case hy7 => (intro w hSw; (try dsimp only at hSw); go_simp; try with_reducible rfl)
    try simp only [Act.put, List.setIfInBounds_toArray, List.set_cons_zero, List.set_cons_succ]
    refine wpAnyH_take (i := 2) (oi := ⟨some 25, .move (.tmp 1), 9, "exact.go:7514", #[], none⟩) (v := ?v8) rfl (by kernel_rfl) (by kernel_rfl) (by kernel_rfl) (fun _ _ _ h => h) (Or.inl ⟨by rfl, ?hy8⟩) (by assumption) ?r8
    case hy8 => (intro w hSw; (try dsimp only at hSw); go_simp; try with_reducible rfl)
    try simp only [Act.put, List.setIfInBounds_toArray, List.set_cons_zero, List.set_cons_succ]
    refine wpAnyH_take (i := 3) (oi := ⟨some 26, .load 33 (.tmp 5), 33, "exact.go:7514", #[], none⟩) (v := ?v9) rfl (by kernel_rfl) (by kernel_rfl) (by kernel_rfl) (fun _ _ _ h => h) (Or.inl ⟨by rfl, ?hy9⟩) (by assumption) ?r9
    case hy9 => (intro w hSw; (try dsimp only at hSw); go_simp; try with_reducible rfl)
    try simp only [Act.put, List.setIfInBounds_toArray, List.set_cons_zero, List.set_cons_succ]
    refine wpAnyH_ready (rs := [1, 6]) (by kernel_rfl) (by simp) ?_
    refine AllReadyH.cons (o := ⟨some 24, .call { callee := .value (.func 8), args := #[.tmp 23], argTypes := #[25] }, 28, "exact.go:7514", #[⟨0, .data⟩], none⟩) rfl (fun K hK => ?_) (AllReadyH.cons (o := ⟨some 8, .alloc 28, 0, "exact.go:7514", #[], none⟩) rfl (fun K hK => ?_) AllReadyH.nil)
    · go_simp
      go_at_call 8
      refine (HTO.out _ (HCC.out _ D0)).mono ?_
      rintro e y1 ⟨ga, rfl, hga, hra, hl1⟩
      have D1 := D0.trans (hl1.mono D0.size)
      have HRA : Hid (∀ W, Below y1.heap.size y1 W → RwT W ga n l) := fun W h => hra.below h
      try go_wp2_with fail
      refine hK.out _ _ (HS.out _ D1) (fun hHeld => ?_)
      clear hK K
      try simp only [Act.put, List.setIfInBounds_toArray, List.set_cons_zero, List.set_cons_succ]
      refine wpAnyH_ready (rs := [4, 6]) (by kernel_rfl) (by simp) ?_
      refine AllReadyH.cons (o := ⟨some 27, .call { callee := .value (.func 12), args := #[.tmp 26], argTypes := #[33] }, 35, "exact.go:7514", #[⟨3, .data⟩, ⟨1, .chain⟩], none⟩) rfl (fun K hK => ?_) (AllReadyH.cons (o := ⟨some 8, .alloc 28, 0, "exact.go:7514", #[], none⟩) rfl (fun K hK => ?_) AllReadyH.nil)
      · go_simp
        go_at_call 12
        refine (HKY.out _).mono ?_
        rintro e y2 ⟨rfl, hl2⟩
        have D2 := D1.trans (hl2.mono D1.size)
        try go_wp2_with fail
        refine hK.out _ _ (HS.out _ D2) (fun hHeld => ?_)
        clear hK K
        try simp only [Act.put, List.setIfInBounds_toArray, List.set_cons_zero, List.set_cons_succ]
        refine wpAnyH_ready (rs := [5, 6]) (by kernel_rfl) (by simp) ?_
        refine AllReadyH.cons (o := ⟨some 28, .call { callee := .value (.func 11), args := #[.tmp 24, .tmp 25, .tmp 27], argTypes := #[28, 9, 35] }, 28, "exact.go:7514", #[⟨1, .data⟩, ⟨2, .data⟩, ⟨4, .data⟩, ⟨4, .chain⟩], none⟩) rfl (fun K hK => ?_) (AllReadyH.cons (o := ⟨some 8, .alloc 28, 0, "exact.go:7514", #[], none⟩) rfl (fun K hK => ?_) AllReadyH.nil)
        · go_simp
          go_at_call 11
          refine (HSP.out _ ga (HCC.out _ D2) (HRA.out _ (by first | exact hl2 | exact (((Below.refl _ _).alloc (Nat.le_refl _) _).trans (hl2.mono (by simp))) | exact hl2.alloc hl2.size _))).mono ?_
          rintro e y3 ⟨gw, cw, rfl, hgw, hrw, hl3⟩
          have D3 := D2.trans (hl3.mono D2.size)
          try go_wp2_with fail
          refine hK.out _ _ (HS.out _ D3) (fun hHeld => ?_)
          clear hK K
          try simp only [Act.put, List.setIfInBounds_toArray, List.set_cons_zero, List.set_cons_succ]
          refine wpAnyH_ready (rs := [6]) (by kernel_rfl) (by simp) ?_
          refine AllReadyH.cons (o := ⟨some 8, .alloc 28, 0, "exact.go:7514", #[], none⟩) rfl (fun K hK => ?_) AllReadyH.nil
          go_simp
          have DZ := D3.alloc D3.size zM
          have HZ : Hid (∀ W, Below (y3.alloc zM).heap.size (y3.alloc zM) W → SixC W y3.heap.size (.string ⟨#[]⟩) (.string ⟨#[]⟩) (.int .i64 0) (.slice none 0 0) (.string ⟨#[]⟩) (.int .u64 0) ∧ ∀ i, W.frozen? ⟨y3.heap.size, i, none⟩ = false) := zero_at _
          have EZ : Below (y3.alloc zM).heap.size (y3.alloc zM) (y3.alloc zM) := Below.refl _ _
          try go_wp2_with fail
          refine hK.out _ _ (HS.out _ DZ) (fun hHeld => ?_)
          clear hK K
          try simp only [Act.put, List.setIfInBounds_toArray, List.set_cons_zero, List.set_cons_succ]
          skip
          refine wpAnyH_ready (rs := [7]) (by kernel_rfl) (by simp) ?_
          refine AllReadyH.cons (o := ⟨none, .store 28 (.tmp 8) (.tmp 28), 0, "exact.go:7514", #[⟨6, .data⟩, ⟨5, .data⟩, ⟨5, .chain⟩, ⟨0, .phase⟩, ⟨1, .phase⟩, ⟨2, .phase⟩, ⟨3, .phase⟩, ⟨4, .phase⟩, ⟨5, .phase⟩, ⟨6, .phase⟩], none⟩) rfl (fun K hK => ?_) AllReadyH.nil
          go_simp
          try go_wp2_with fail
          refine hK.out _ _ (HS.out _ (D3.alloc D3.size _)) (fun hHeld => ?_)
          clear hK K
          try simp only [Act.put, List.setIfInBounds_toArray, List.set_cons_zero, List.set_cons_succ]
          refine wpAnyH_done (by kernel_rfl) ?_ _
          go_wp2_with fail
          go_meet
          case rel => exact bx_late (yl := y2) D2 hgw hrw D3
        · go_simp
          have DZ := D2.alloc D2.size zM
          have HZ : Hid (∀ W, Below (y2.alloc zM).heap.size (y2.alloc zM) W → SixC W y2.heap.size (.string ⟨#[]⟩) (.string ⟨#[]⟩) (.int .i64 0) (.slice none 0 0) (.string ⟨#[]⟩) (.int .u64 0) ∧ ∀ i, W.frozen? ⟨y2.heap.size, i, none⟩ = false) := zero_at _
          have EZ : Below (y2.alloc zM).heap.size (y2.alloc zM) (y2.alloc zM) := Below.refl _ _
          try go_wp2_with fail
          refine hK.out _ _ (HS.out _ DZ) (fun hHeld => ?_)
          clear hK K
          try simp only [Act.put, List.setIfInBounds_toArray, List.set_cons_zero, List.set_cons_succ]
          refine wpAnyH_ready (rs := [5]) (by kernel_rfl) (by simp) ?_
          refine AllReadyH.cons (o := ⟨some 28, .call { callee := .value (.func 11), args := #[.tmp 24, .tmp 25, .tmp 27], argTypes := #[28, 9, 35] }, 28, "exact.go:7514", #[⟨1, .data⟩, ⟨2, .data⟩, ⟨4, .data⟩, ⟨4, .chain⟩], none⟩) rfl (fun K hK => ?_) AllReadyH.nil
          go_simp
          go_at_call 11
          refine (HSP.out _ ga (HCC.out _ DZ) (HRA.out _ (by first | exact hl2 | exact (((Below.refl _ _).alloc (Nat.le_refl _) _).trans (hl2.mono (by simp))) | exact hl2.alloc hl2.size _))).mono ?_
          rintro e y3 ⟨gw, cw, rfl, hgw, hrw, hl3⟩
          have D3 := DZ.trans (hl3.mono DZ.size)
          have E3 := EZ.trans (hl3.mono EZ.size)
          try go_wp2_with fail
          refine hK.out _ _ (HS.out _ D3) (fun hHeld => ?_)
          clear hK K
          try simp only [Act.put, List.setIfInBounds_toArray, List.set_cons_zero, List.set_cons_succ]
          have hz := HZ.out _ E3
          obtain ⟨⟨d0, d1, d2, d3, d4, d5⟩, f1⟩ : SixC y3 y2.heap.size (.string ⟨#[]⟩) (.string ⟨#[]⟩) (.int .i64 0) (.slice none 0 0) (.string ⟨#[]⟩) (.int .u64 0) ∧ ∀ i, y3.frozen? ⟨y2.heap.size, i, none⟩ = false := hz
          have g1 := f1 0
          refine wpAnyH_ready (rs := [7]) (by kernel_rfl) (by simp) ?_
          refine AllReadyH.cons (o := ⟨none, .store 28 (.tmp 8) (.tmp 28), 0, "exact.go:7514", #[⟨6, .data⟩, ⟨5, .data⟩, ⟨5, .chain⟩, ⟨0, .phase⟩, ⟨1, .phase⟩, ⟨2, .phase⟩, ⟨3, .phase⟩, ⟨4, .phase⟩, ⟨5, .phase⟩, ⟨6, .phase⟩], none⟩) rfl (fun K hK => ?_) AllReadyH.nil
          go_simp
          try go_wp2_with fail
          refine hK.out _ _ (HS.out _ (six_bel D3 D2.size)) (fun hHeld => ?_)
          clear hK K
          try simp only [Act.put, List.setIfInBounds_toArray, List.set_cons_zero, List.set_cons_succ]
          refine wpAnyH_done (by kernel_rfl) ?_ _
          go_wp2_with fail
          go_meet
          case rel => exact bx_early (wp := y2) (yl := (y2.alloc zM)) D2 (Nat.le_refl _) hgw hrw D3 E3
      · go_simp
        have DZ := D1.alloc D1.size zM
        have HZ : Hid (∀ W, Below (y1.alloc zM).heap.size (y1.alloc zM) W → SixC W y1.heap.size (.string ⟨#[]⟩) (.string ⟨#[]⟩) (.int .i64 0) (.slice none 0 0) (.string ⟨#[]⟩) (.int .u64 0) ∧ ∀ i, W.frozen? ⟨y1.heap.size, i, none⟩ = false) := zero_at _
        have EZ : Below (y1.alloc zM).heap.size (y1.alloc zM) (y1.alloc zM) := Below.refl _ _
        try go_wp2_with fail
        refine hK.out _ _ (HS.out _ DZ) (fun hHeld => ?_)
        clear hK K
        try simp only [Act.put, List.setIfInBounds_toArray, List.set_cons_zero, List.set_cons_succ]
        refine wpAnyH_ready (rs := [4]) (by kernel_rfl) (by simp) ?_
        refine AllReadyH.cons (o := ⟨some 27, .call { callee := .value (.func 12), args := #[.tmp 26], argTypes := #[33] }, 35, "exact.go:7514", #[⟨3, .data⟩, ⟨1, .chain⟩], none⟩) rfl (fun K hK => ?_) AllReadyH.nil
        go_simp
        go_at_call 12
        refine (HKY.out _).mono ?_
        rintro e y2 ⟨rfl, hl2⟩
        have D2 := DZ.trans (hl2.mono DZ.size)
        have E2 := EZ.trans (hl2.mono EZ.size)
        try go_wp2_with fail
        refine hK.out _ _ (HS.out _ D2) (fun hHeld => ?_)
        clear hK K
        try simp only [Act.put, List.setIfInBounds_toArray, List.set_cons_zero, List.set_cons_succ]
        refine wpAnyH_ready (rs := [5]) (by kernel_rfl) (by simp) ?_
        refine AllReadyH.cons (o := ⟨some 28, .call { callee := .value (.func 11), args := #[.tmp 24, .tmp 25, .tmp 27], argTypes := #[28, 9, 35] }, 28, "exact.go:7514", #[⟨1, .data⟩, ⟨2, .data⟩, ⟨4, .data⟩, ⟨4, .chain⟩], none⟩) rfl (fun K hK => ?_) AllReadyH.nil
        go_simp
        go_at_call 11
        refine (HSP.out _ ga (HCC.out _ D2) (HRA.out _ (by first | exact hl2 | exact (((Below.refl _ _).alloc (Nat.le_refl _) _).trans (hl2.mono (by simp))) | exact hl2.alloc hl2.size _))).mono ?_
        rintro e y3 ⟨gw, cw, rfl, hgw, hrw, hl3⟩
        have D3 := D2.trans (hl3.mono D2.size)
        have E3 := E2.trans (hl3.mono E2.size)
        try go_wp2_with fail
        refine hK.out _ _ (HS.out _ D3) (fun hHeld => ?_)
        clear hK K
        try simp only [Act.put, List.setIfInBounds_toArray, List.set_cons_zero, List.set_cons_succ]
        have hz := HZ.out _ E3
        obtain ⟨⟨d0, d1, d2, d3, d4, d5⟩, f1⟩ : SixC y3 y1.heap.size (.string ⟨#[]⟩) (.string ⟨#[]⟩) (.int .i64 0) (.slice none 0 0) (.string ⟨#[]⟩) (.int .u64 0) ∧ ∀ i, y3.frozen? ⟨y1.heap.size, i, none⟩ = false := hz
        have g1 := f1 0
        refine wpAnyH_ready (rs := [7]) (by kernel_rfl) (by simp) ?_
        refine AllReadyH.cons (o := ⟨none, .store 28 (.tmp 8) (.tmp 28), 0, "exact.go:7514", #[⟨6, .data⟩, ⟨5, .data⟩, ⟨5, .chain⟩, ⟨0, .phase⟩, ⟨1, .phase⟩, ⟨2, .phase⟩, ⟨3, .phase⟩, ⟨4, .phase⟩, ⟨5, .phase⟩, ⟨6, .phase⟩], none⟩) rfl (fun K hK => ?_) AllReadyH.nil
        go_simp
        try go_wp2_with fail
        refine hK.out _ _ (HS.out _ (six_bel D3 D1.size)) (fun hHeld => ?_)
        clear hK K
        try simp only [Act.put, List.setIfInBounds_toArray, List.set_cons_zero, List.set_cons_succ]
        refine wpAnyH_done (by kernel_rfl) ?_ _
        go_wp2_with fail
        go_meet
        case rel => exact bx_early (wp := y1) (yl := y2) D1 (E2.size) hgw hrw D3 E3
    · go_simp
      have DZ := D0.alloc D0.size zM
      have HZ : Hid (∀ W, Below (w1.drew.alloc zM).heap.size (w1.drew.alloc zM) W → SixC W w1.drew.heap.size (.string ⟨#[]⟩) (.string ⟨#[]⟩) (.int .i64 0) (.slice none 0 0) (.string ⟨#[]⟩) (.int .u64 0) ∧ ∀ i, W.frozen? ⟨w1.drew.heap.size, i, none⟩ = false) := zero_at _
      have EZ : Below (w1.drew.alloc zM).heap.size (w1.drew.alloc zM) (w1.drew.alloc zM) := Below.refl _ _
      try go_wp2_with fail
      refine hK.out _ _ (HS.out _ DZ) (fun hHeld => ?_)
      clear hK K
      try simp only [Act.put, List.setIfInBounds_toArray, List.set_cons_zero, List.set_cons_succ]
      refine wpAnyH_ready (rs := [1]) (by kernel_rfl) (by simp) ?_
      refine AllReadyH.cons (o := ⟨some 24, .call { callee := .value (.func 8), args := #[.tmp 23], argTypes := #[25] }, 28, "exact.go:7514", #[⟨0, .data⟩], none⟩) rfl (fun K hK => ?_) AllReadyH.nil
      go_simp
      go_at_call 8
      refine (HTO.out _ (HCC.out _ DZ)).mono ?_
      rintro e y1 ⟨ga, rfl, hga, hra, hl1⟩
      have D1 := DZ.trans (hl1.mono DZ.size)
      have HRA : Hid (∀ W, Below y1.heap.size y1 W → RwT W ga n l) := fun W h => hra.below h
      have E1 := EZ.trans (hl1.mono EZ.size)
      try go_wp2_with fail
      refine hK.out _ _ (HS.out _ D1) (fun hHeld => ?_)
      clear hK K
      try simp only [Act.put, List.setIfInBounds_toArray, List.set_cons_zero, List.set_cons_succ]
      refine wpAnyH_ready (rs := [4]) (by kernel_rfl) (by simp) ?_
      refine AllReadyH.cons (o := ⟨some 27, .call { callee := .value (.func 12), args := #[.tmp 26], argTypes := #[33] }, 35, "exact.go:7514", #[⟨3, .data⟩, ⟨1, .chain⟩], none⟩) rfl (fun K hK => ?_) AllReadyH.nil
      go_simp
      go_at_call 12
      refine (HKY.out _).mono ?_
      rintro e y2 ⟨rfl, hl2⟩
      have D2 := D1.trans (hl2.mono D1.size)
      have E2 := E1.trans (hl2.mono E1.size)
      try go_wp2_with fail
      refine hK.out _ _ (HS.out _ D2) (fun hHeld => ?_)
      clear hK K
      try simp only [Act.put, List.setIfInBounds_toArray, List.set_cons_zero, List.set_cons_succ]
      refine wpAnyH_ready (rs := [5]) (by kernel_rfl) (by simp) ?_
      refine AllReadyH.cons (o := ⟨some 28, .call { callee := .value (.func 11), args := #[.tmp 24, .tmp 25, .tmp 27], argTypes := #[28, 9, 35] }, 28, "exact.go:7514", #[⟨1, .data⟩, ⟨2, .data⟩, ⟨4, .data⟩, ⟨4, .chain⟩], none⟩) rfl (fun K hK => ?_) AllReadyH.nil
      go_simp
      go_at_call 11
      refine (HSP.out _ ga (HCC.out _ D2) (HRA.out _ (by first | exact hl2 | exact (((Below.refl _ _).alloc (Nat.le_refl _) _).trans (hl2.mono (by simp))) | exact hl2.alloc hl2.size _))).mono ?_
      rintro e y3 ⟨gw, cw, rfl, hgw, hrw, hl3⟩
      have D3 := D2.trans (hl3.mono D2.size)
      have E3 := E2.trans (hl3.mono E2.size)
      try go_wp2_with fail
      refine hK.out _ _ (HS.out _ D3) (fun hHeld => ?_)
      clear hK K
      try simp only [Act.put, List.setIfInBounds_toArray, List.set_cons_zero, List.set_cons_succ]
      have hz := HZ.out _ E3
      obtain ⟨⟨d0, d1, d2, d3, d4, d5⟩, f1⟩ : SixC y3 w1.heap.size (.string ⟨#[]⟩) (.string ⟨#[]⟩) (.int .i64 0) (.slice none 0 0) (.string ⟨#[]⟩) (.int .u64 0) ∧ ∀ i, y3.frozen? ⟨w1.heap.size, i, none⟩ = false := hz
      have g1 := f1 0
      refine wpAnyH_ready (rs := [7]) (by kernel_rfl) (by simp) ?_
      refine AllReadyH.cons (o := ⟨none, .store 28 (.tmp 8) (.tmp 28), 0, "exact.go:7514", #[⟨6, .data⟩, ⟨5, .data⟩, ⟨5, .chain⟩, ⟨0, .phase⟩, ⟨1, .phase⟩, ⟨2, .phase⟩, ⟨3, .phase⟩, ⟨4, .phase⟩, ⟨5, .phase⟩, ⟨6, .phase⟩], none⟩) rfl (fun K hK => ?_) AllReadyH.nil
      go_simp
      try go_wp2_with fail
      refine hK.out _ _ (HS.out _ (six_bel D3 D0.size)) (fun hHeld => ?_)
      clear hK K
      try simp only [Act.put, List.setIfInBounds_toArray, List.set_cons_zero, List.set_cons_succ]
      refine wpAnyH_done (by kernel_rfl) ?_ _
      go_wp2_with fail
      go_meet
      case rel => exact bx_early (wp := w1.drew) (yl := y2) D0 (E2.size) hgw hrw D3 E3
  case rest =>
  obtain ⟨w2, rfl⟩ : ∃ w2, w2 = wc := ⟨_, rfl⟩
  obtain ⟨bw, gw, cw, rfl, hx2, hr2, hne2, hbw, hgw, hl2⟩ := hcut
  have C2 : Below W0.heap.size W0 w2 := C1.trans (hl2.mono C1.size)
  have hs1 := C1.size
  have HX2 : Hid (SixC w2 bw (.string path) (.string sum) (.int .i64 z) (.slice (some ⟨gw, 0, none⟩) n cw) (.string KN) (.int .u64 (S : Int))) := hx2
  have HR2 : Hid (RwT w2 gw n l) := hr2
  have hgwl := hr2.lt
  have hbwl := hx2.lt
  clear hx2 hr2 hl2
  have hcc : W0.heap.size ≤ bw ∧ W0.heap.size ≤ gw := ⟨by omega, by omega⟩
  obtain ⟨hbw0, hgw0⟩ := hcc
  clear hbw hgw hs1 C1 HSP
  obtain ⟨⟨k0, k1, k2, k3, k4, k5⟩, -⟩ := HKC.out _ C2
  go_wp2_with (first | (go_at_call 8; refine (HTO.out _ (HBW.out _ C2)).mono ?_; rintro e w3 ⟨gx, rfl, hgx, hr3, hl3⟩; refine Hid.out ?_) | go_in)
  refine Lib.hid ?_
  have C3 := C2.trans (hl3.mono C2.size)
  have HX3 : Hid (SixC w3 bw (.string path) (.string sum) (.int .i64 z) (.slice (some ⟨gw, 0, none⟩) n cw) (.string KN) (.int .u64 (S : Int))) := HX2.out.below hl3
  have HR3 : Hid (RwT w3 gw n l) := HR2.out.below hl3
  have HY3 : Hid (RwT w3 gx n l) := hr3
  have hgxl := hr3.lt
  have hs2 := C2.size
  clear hr3 hl3 k0 k1 k2 k3 k4 k5 HX2 HR2 C2
  go_upto_region 9 with fail
  obtain ⟨o4, ho4⟩ : ∃ o4 : Obj, o4 = .cells #[.string path, .string sum, .int .i64 z, .slice (some ⟨gx, 0, none⟩) n n, .string key, .int .u64 (sig : Int)] 28 := ⟨_, rfl⟩
  rw [← ho4]
  obtain ⟨w4, hw4⟩ : ∃ w4 : World, w4 = w3.alloc o4 := ⟨_, rfl⟩
  rw [← hw4]
  have b4 : Below w3.heap.size w3 w4 := by rw [hw4]; exact (Below.refl _ _).alloc (Nat.le_refl _) _
  have C4 := C3.trans (b4.mono C3.size)
  have HX4 : Hid (SixC w4 bw (.string path) (.string sum) (.int .i64 z) (.slice (some ⟨gw, 0, none⟩) n cw) (.string KN) (.int .u64 (S : Int))) := HX3.out.below b4
  have HR4 : Hid (RwT w4 gw n l) := HR3.out.below b4
  have HY4 : Hid (RwT w4 gx n l) := HY3.out.below b4
  have HB4 : Hid (SixC w4 w3.heap.size (.string path) (.string sum) (.int .i64 z) (.slice (some ⟨gx, 0, none⟩) n n) (.string key) (.int .u64 (sig : Int))) := by rw [hw4, ho4]; exact six_all _ (Below.refl _ _)
  have hs4 : w4.heap.size = w3.heap.size + 1 := by rw [hw4, World.size_alloc]
  have HS4 : Hid (w4.heap.size = w3.heap.size + 1) := hs4
  clear hw4 ho4 b4 HX3 HR3 HY3 hs4
  go_cut [10] from 15 (fun p wx => Bx w4 wx p path sum KN z S l n)
  case first =>
    have D0 : Below w4.heap.size w4 w4.drew := (Below.refl _ _).drew
    have HCC : Hid (∀ W, Below w4.heap.size w4 W → Below w.heap.size w W) := fun W h => HBW.out _ (C4.trans (h.mono C4.size))
    have HRX : Hid (∀ W, Below w4.heap.size w4 W → RwT W gx n l) := fun W h => HY4.out.below h
    have HS : Hid (∀ W, Below w4.heap.size w4 W → (W.cell? ⟨w3.heap.size, 0, none⟩ = some (.string path) ∧ W.cell? ⟨w3.heap.size, 1, none⟩ = some (.string sum) ∧ W.cell? ⟨w3.heap.size, 2, none⟩ = some (.int .i64 z) ∧ W.cell? ⟨w3.heap.size, 3, none⟩ = some (.slice (some ⟨gx, 0, none⟩) n n) ∧ W.cell? ⟨w3.heap.size, 4, none⟩ = some (.string key) ∧ W.cell? ⟨w3.heap.size, 5, none⟩ = some (.int .u64 (sig : Int))) ∧ W.cell? ⟨w.heap.size + 1, 0, none⟩ = some (.int .u64 (N : Int)) ∧ W.cell? ⟨w.heap.size + 1, 1, none⟩ = some (.int .u64 (E : Int)) ∧ W.cell? ⟨w.heap.size + 1, 2, none⟩ = some (.int .u64 (D : Int))) := fun W h => ⟨HB4.out.below h, (HKC.out _ (C4.trans (h.mono C4.size))).2⟩
    clear HKC HTO HEQ HX4 HR4 HY4 HB4
    refine wp_region_held_drew (S := (fun W => (W.cell? ⟨w3.heap.size, 0, none⟩ = some (.string path) ∧ W.cell? ⟨w3.heap.size, 1, none⟩ = some (.string sum) ∧ W.cell? ⟨w3.heap.size, 2, none⟩ = some (.int .i64 z) ∧ W.cell? ⟨w3.heap.size, 3, none⟩ = some (.slice (some ⟨gx, 0, none⟩) n n) ∧ W.cell? ⟨w3.heap.size, 4, none⟩ = some (.string key) ∧ W.cell? ⟨w3.heap.size, 5, none⟩ = some (.int .u64 (sig : Int))) ∧ W.cell? ⟨w.heap.size + 1, 0, none⟩ = some (.int .u64 (N : Int)) ∧ W.cell? ⟨w.heap.size + 1, 1, none⟩ = some (.int .u64 (E : Int)) ∧ W.cell? ⟨w.heap.size + 1, 2, none⟩ = some (.int .u64 (D : Int)))) (by kernel_rfl) (HS.out _ D0) (fun hHeld => ?_)
    refine wpAnyH_take (i := 0) (oi := ⟨some 31, .load 28 (.tmp 9), 28, "exact.go:7516", #[], none⟩) (v := ?v1) rfl (by kernel_rfl) (by kernel_rfl) (by kernel_rfl) (fun _ _ _ h => h) (Or.inl ⟨by rfl, ?hy1⟩) (by assumption) ?r1
    case hy1 => (intro w hSw; (try dsimp only at hSw); go_simp; try with_reducible rfl)
    try simp only [Act.put, List.setIfInBounds_toArray, List.set_cons_zero, List.set_cons_succ]
    refine wpAnyH_take (i := 1) (oi := ⟨some 32, .move (.tmp 1), 9, "exact.go:7516", #[], none⟩) (v := ?v2) rfl (by kernel_rfl) (by kernel_rfl) (by kernel_rfl) (fun _ _ _ h => h) (Or.inl ⟨by rfl, ?hy2⟩) (by assumption) ?r2
    case hy2 => (intro w hSw; (try dsimp only at hSw); go_simp; try with_reducible rfl)
    try simp only [Act.put, List.setIfInBounds_toArray, List.set_cons_zero, List.set_cons_succ]
    refine wpAnyH_take (i := 2) (oi := ⟨some 33, .load 33 (.tmp 5), 33, "exact.go:7516", #[], none⟩) (v := ?v3) rfl (by kernel_rfl) (by kernel_rfl) (by kernel_rfl) (fun _ _ _ h => h) (Or.inl ⟨by rfl, ?hy3⟩) (by assumption) ?r3
    case hy3 => (intro w hSw; (try dsimp only at hSw); go_simp; try with_reducible rfl)
    try simp only [Act.put, List.setIfInBounds_toArray, List.set_cons_zero, List.set_cons_succ]
    refine wpAnyH_ready (rs := [3, 5]) (by kernel_rfl) (by simp) ?_
    refine AllReadyH.cons (o := ⟨some 34, .call { callee := .value (.func 12), args := #[.tmp 33], argTypes := #[33] }, 35, "exact.go:7516", #[⟨2, .data⟩], none⟩) rfl (fun K hK => ?_) (AllReadyH.cons (o := ⟨some 10, .alloc 28, 0, "exact.go:7516", #[], none⟩) rfl (fun K hK => ?_) AllReadyH.nil)
    · go_simp
      go_at_call 12
      refine (HKY.out _).mono ?_
      rintro e y1 ⟨rfl, hl1⟩
      have D1 := D0.trans (hl1.mono D0.size)
      try go_wp2_with fail
      refine hK.out _ _ (HS.out _ D1) (fun hHeld => ?_)
      clear hK K
      try simp only [Act.put, List.setIfInBounds_toArray, List.set_cons_zero, List.set_cons_succ]
      refine wpAnyH_ready (rs := [4, 5]) (by kernel_rfl) (by simp) ?_
      refine AllReadyH.cons (o := ⟨some 35, .call { callee := .value (.func 13), args := #[.tmp 31, .tmp 32, .tmp 34], argTypes := #[28, 9, 35] }, 28, "exact.go:7516", #[⟨0, .data⟩, ⟨1, .data⟩, ⟨3, .data⟩, ⟨3, .chain⟩], none⟩) rfl (fun K hK => ?_) (AllReadyH.cons (o := ⟨some 10, .alloc 28, 0, "exact.go:7516", #[], none⟩) rfl (fun K hK => ?_) AllReadyH.nil)
      · go_simp
        go_at_call 13
        refine (HIM.out _ gx (HCC.out _ D1) (HRX.out _ D1)).mono ?_
        rintro e y2 ⟨gw, cw, rfl, hgw, hrw, hl2⟩
        have D2 := D1.trans (hl2.mono D1.size)
        try go_wp2_with fail
        refine hK.out _ _ (HS.out _ D2) (fun hHeld => ?_)
        clear hK K
        try simp only [Act.put, List.setIfInBounds_toArray, List.set_cons_zero, List.set_cons_succ]
        refine wpAnyH_ready (rs := [5]) (by kernel_rfl) (by simp) ?_
        refine AllReadyH.cons (o := ⟨some 10, .alloc 28, 0, "exact.go:7516", #[], none⟩) rfl (fun K hK => ?_) AllReadyH.nil
        go_simp
        have DZ := D2.alloc D2.size zM
        have HZ : Hid (∀ W, Below (y2.alloc zM).heap.size (y2.alloc zM) W → SixC W y2.heap.size (.string ⟨#[]⟩) (.string ⟨#[]⟩) (.int .i64 0) (.slice none 0 0) (.string ⟨#[]⟩) (.int .u64 0) ∧ ∀ i, W.frozen? ⟨y2.heap.size, i, none⟩ = false) := zero_at _
        have EZ : Below (y2.alloc zM).heap.size (y2.alloc zM) (y2.alloc zM) := Below.refl _ _
        try go_wp2_with fail
        refine hK.out _ _ (HS.out _ DZ) (fun hHeld => ?_)
        clear hK K
        try simp only [Act.put, List.setIfInBounds_toArray, List.set_cons_zero, List.set_cons_succ]
        skip
        refine wpAnyH_ready (rs := [6]) (by kernel_rfl) (by simp) ?_
        refine AllReadyH.cons (o := ⟨none, .store 28 (.tmp 10) (.tmp 35), 0, "exact.go:7516", #[⟨5, .data⟩, ⟨4, .data⟩, ⟨4, .chain⟩, ⟨0, .phase⟩, ⟨1, .phase⟩, ⟨2, .phase⟩, ⟨3, .phase⟩, ⟨4, .phase⟩, ⟨5, .phase⟩], none⟩) rfl (fun K hK => ?_) AllReadyH.nil
        go_simp
        try go_wp2_with fail
        refine hK.out _ _ (HS.out _ (D2.alloc D2.size _)) (fun hHeld => ?_)
        clear hK K
        try simp only [Act.put, List.setIfInBounds_toArray, List.set_cons_zero, List.set_cons_succ]
        refine wpAnyH_done (by kernel_rfl) ?_ _
        go_wp2_with fail
        go_meet
        case rel => exact bx_late (yl := y1) D1 hgw hrw D2
      · go_simp
        have DZ := D1.alloc D1.size zM
        have HZ : Hid (∀ W, Below (y1.alloc zM).heap.size (y1.alloc zM) W → SixC W y1.heap.size (.string ⟨#[]⟩) (.string ⟨#[]⟩) (.int .i64 0) (.slice none 0 0) (.string ⟨#[]⟩) (.int .u64 0) ∧ ∀ i, W.frozen? ⟨y1.heap.size, i, none⟩ = false) := zero_at _
        have EZ : Below (y1.alloc zM).heap.size (y1.alloc zM) (y1.alloc zM) := Below.refl _ _
        try go_wp2_with fail
        refine hK.out _ _ (HS.out _ DZ) (fun hHeld => ?_)
        clear hK K
        try simp only [Act.put, List.setIfInBounds_toArray, List.set_cons_zero, List.set_cons_succ]
        refine wpAnyH_ready (rs := [4]) (by kernel_rfl) (by simp) ?_
        refine AllReadyH.cons (o := ⟨some 35, .call { callee := .value (.func 13), args := #[.tmp 31, .tmp 32, .tmp 34], argTypes := #[28, 9, 35] }, 28, "exact.go:7516", #[⟨0, .data⟩, ⟨1, .data⟩, ⟨3, .data⟩, ⟨3, .chain⟩], none⟩) rfl (fun K hK => ?_) AllReadyH.nil
        go_simp
        go_at_call 13
        refine (HIM.out _ gx (HCC.out _ DZ) (HRX.out _ DZ)).mono ?_
        rintro e y2 ⟨gw, cw, rfl, hgw, hrw, hl2⟩
        have D2 := DZ.trans (hl2.mono DZ.size)
        have E2 := EZ.trans (hl2.mono EZ.size)
        try go_wp2_with fail
        refine hK.out _ _ (HS.out _ D2) (fun hHeld => ?_)
        clear hK K
        try simp only [Act.put, List.setIfInBounds_toArray, List.set_cons_zero, List.set_cons_succ]
        have hz := HZ.out _ E2
        obtain ⟨⟨d0, d1, d2, d3, d4, d5⟩, f1⟩ : SixC y2 y1.heap.size (.string ⟨#[]⟩) (.string ⟨#[]⟩) (.int .i64 0) (.slice none 0 0) (.string ⟨#[]⟩) (.int .u64 0) ∧ ∀ i, y2.frozen? ⟨y1.heap.size, i, none⟩ = false := hz
        have g1 := f1 0
        refine wpAnyH_ready (rs := [6]) (by kernel_rfl) (by simp) ?_
        refine AllReadyH.cons (o := ⟨none, .store 28 (.tmp 10) (.tmp 35), 0, "exact.go:7516", #[⟨5, .data⟩, ⟨4, .data⟩, ⟨4, .chain⟩, ⟨0, .phase⟩, ⟨1, .phase⟩, ⟨2, .phase⟩, ⟨3, .phase⟩, ⟨4, .phase⟩, ⟨5, .phase⟩], none⟩) rfl (fun K hK => ?_) AllReadyH.nil
        go_simp
        try go_wp2_with fail
        refine hK.out _ _ (HS.out _ (six_bel D2 D1.size)) (fun hHeld => ?_)
        clear hK K
        try simp only [Act.put, List.setIfInBounds_toArray, List.set_cons_zero, List.set_cons_succ]
        refine wpAnyH_done (by kernel_rfl) ?_ _
        go_wp2_with fail
        go_meet
        case rel => exact bx_early (wp := y1) (yl := (y1.alloc zM)) D1 (Nat.le_refl _) hgw hrw D2 E2
    · go_simp
      have DZ := D0.alloc D0.size zM
      have HZ : Hid (∀ W, Below (w4.drew.alloc zM).heap.size (w4.drew.alloc zM) W → SixC W w4.drew.heap.size (.string ⟨#[]⟩) (.string ⟨#[]⟩) (.int .i64 0) (.slice none 0 0) (.string ⟨#[]⟩) (.int .u64 0) ∧ ∀ i, W.frozen? ⟨w4.drew.heap.size, i, none⟩ = false) := zero_at _
      have EZ : Below (w4.drew.alloc zM).heap.size (w4.drew.alloc zM) (w4.drew.alloc zM) := Below.refl _ _
      try go_wp2_with fail
      refine hK.out _ _ (HS.out _ DZ) (fun hHeld => ?_)
      clear hK K
      try simp only [Act.put, List.setIfInBounds_toArray, List.set_cons_zero, List.set_cons_succ]
      refine wpAnyH_ready (rs := [3]) (by kernel_rfl) (by simp) ?_
      refine AllReadyH.cons (o := ⟨some 34, .call { callee := .value (.func 12), args := #[.tmp 33], argTypes := #[33] }, 35, "exact.go:7516", #[⟨2, .data⟩], none⟩) rfl (fun K hK => ?_) AllReadyH.nil
      go_simp
      go_at_call 12
      refine (HKY.out _).mono ?_
      rintro e y1 ⟨rfl, hl1⟩
      have D1 := DZ.trans (hl1.mono DZ.size)
      have E1 := EZ.trans (hl1.mono EZ.size)
      try go_wp2_with fail
      refine hK.out _ _ (HS.out _ D1) (fun hHeld => ?_)
      clear hK K
      try simp only [Act.put, List.setIfInBounds_toArray, List.set_cons_zero, List.set_cons_succ]
      refine wpAnyH_ready (rs := [4]) (by kernel_rfl) (by simp) ?_
      refine AllReadyH.cons (o := ⟨some 35, .call { callee := .value (.func 13), args := #[.tmp 31, .tmp 32, .tmp 34], argTypes := #[28, 9, 35] }, 28, "exact.go:7516", #[⟨0, .data⟩, ⟨1, .data⟩, ⟨3, .data⟩, ⟨3, .chain⟩], none⟩) rfl (fun K hK => ?_) AllReadyH.nil
      go_simp
      go_at_call 13
      refine (HIM.out _ gx (HCC.out _ D1) (HRX.out _ D1)).mono ?_
      rintro e y2 ⟨gw, cw, rfl, hgw, hrw, hl2⟩
      have D2 := D1.trans (hl2.mono D1.size)
      have E2 := E1.trans (hl2.mono E1.size)
      try go_wp2_with fail
      refine hK.out _ _ (HS.out _ D2) (fun hHeld => ?_)
      clear hK K
      try simp only [Act.put, List.setIfInBounds_toArray, List.set_cons_zero, List.set_cons_succ]
      have hz := HZ.out _ E2
      obtain ⟨⟨d0, d1, d2, d3, d4, d5⟩, f1⟩ : SixC y2 w4.heap.size (.string ⟨#[]⟩) (.string ⟨#[]⟩) (.int .i64 0) (.slice none 0 0) (.string ⟨#[]⟩) (.int .u64 0) ∧ ∀ i, y2.frozen? ⟨w4.heap.size, i, none⟩ = false := hz
      have g1 := f1 0
      refine wpAnyH_ready (rs := [6]) (by kernel_rfl) (by simp) ?_
      refine AllReadyH.cons (o := ⟨none, .store 28 (.tmp 10) (.tmp 35), 0, "exact.go:7516", #[⟨5, .data⟩, ⟨4, .data⟩, ⟨4, .chain⟩, ⟨0, .phase⟩, ⟨1, .phase⟩, ⟨2, .phase⟩, ⟨3, .phase⟩, ⟨4, .phase⟩, ⟨5, .phase⟩], none⟩) rfl (fun K hK => ?_) AllReadyH.nil
      go_simp
      try go_wp2_with fail
      refine hK.out _ _ (HS.out _ (six_bel D2 D0.size)) (fun hHeld => ?_)
      clear hK K
      try simp only [Act.put, List.setIfInBounds_toArray, List.set_cons_zero, List.set_cons_succ]
      refine wpAnyH_done (by kernel_rfl) ?_ _
      go_wp2_with fail
      go_meet
      case rel => exact bx_early (wp := w4.drew) (yl := y1) D0 (E1.size) hgw hrw D2 E2
  case rest =>
  obtain ⟨w5, rfl⟩ : ∃ w5, w5 = wc := ⟨_, rfl⟩
  obtain ⟨bg, gg, cg, rfl, hx5, hr5, hne5, hbg, hgg, hl5⟩ := hcut
  have C5 : Below W0.heap.size W0 w5 := C4.trans (hl5.mono C4.size)
  have hs3 := C3.size
  have hs4 := HS4.out
  have HX5 : Hid (SixC w5 bw (.string path) (.string sum) (.int .i64 z) (.slice (some ⟨gw, 0, none⟩) n cw) (.string KN) (.int .u64 (S : Int))) := HX4.out.below hl5
  have HR5 : Hid (RwT w5 gw n l) := HR4.out.below hl5
  have HY5 : Hid (RwT w5 gx n l) := HY4.out.below hl5
  have HB5 : Hid (SixC w5 w3.heap.size (.string path) (.string sum) (.int .i64 z) (.slice (some ⟨gx, 0, none⟩) n n) (.string key) (.int .u64 (sig : Int))) := HB4.out.below hl5
  have HG5 : Hid (SixC w5 bg (.string path) (.string sum) (.int .i64 z) (.slice (some ⟨gg, 0, none⟩) n cg) (.string KN) (.int .u64 (S : Int))) := hx5
  have HQ5 : Hid (RwT w5 gg n l) := hr5
  have n1 : bw ≠ gx := by omega
  have n2 : gw ≠ gx := by omega
  have n3 : w3.heap.size ≠ gx := by omega
  have n4 : bg ≠ gx := by omega
  have n5 : gg ≠ gx := by omega
  have n6 : bw ≠ gg := by omega
  have n7 : gw ≠ gg := by omega
  have n8 : bg ≠ gg := hne5
  have hgx0 : W0.heap.size ≤ gx := by omega
  have hgg0 : W0.heap.size ≤ gg := by omega
  have HNE : Hid ((bw ≠ gx ∧ gw ≠ gx ∧ w3.heap.size ≠ gx ∧ bg ≠ gx ∧ gg ≠ gx) ∧ (bw ≠ gg ∧ gw ≠ gg ∧ bg ≠ gg) ∧ W0.heap.size ≤ gx ∧ W0.heap.size ≤ gg) := ⟨⟨n1, n2, n3, n4, n5⟩, ⟨n6, n7, n8⟩, hgx0, hgg0⟩
  clear n1 n2 n3 n4 n5 n6 n7 n8 hgx0 hgg0 hx5 hr5 hne5 hbg hgg hl5 C4 C3 hs3 hs4 HS4 HX4 HR4 HY4 HB4 hbw0 hgw0 hgwl hbwl hne2 hgx hgxl hs2
  obtain ⟨p0, p1, p2, p3, p4, p5⟩ := HG5.out
  obtain ⟨q0, q1, q2, q3, q4, q5⟩ := HX5.out
  go_wp2_with (first | (go_at_call 10; refine (HEQ.out HN.out _ _ _ _ _ _ _ HQ5.out HR5.out).mono ?_; rintro e w6 ⟨rfl, hl6⟩; refine Hid.out ?_) | go_in)
  refine Lib.hid ?_
  have C6 := C5.trans (hl6.mono C5.size)
  have HX6 : Hid (SixC w6 bw (.string path) (.string sum) (.int .i64 z) (.slice (some ⟨gw, 0, none⟩) n cw) (.string KN) (.int .u64 (S : Int))) := HX5.out.below hl6
  have HR6 : Hid (RwT w6 gw n l) := HR5.out.below hl6
  have HY6 : Hid (RwT w6 gx n l) := HY5.out.below hl6
  have HB6 : Hid (SixC w6 w3.heap.size (.string path) (.string sum) (.int .i64 z) (.slice (some ⟨gx, 0, none⟩) n n) (.string key) (.int .u64 (sig : Int))) := HB5.out.below hl6
  have HG6 : Hid (SixC w6 bg (.string path) (.string sum) (.int .i64 z) (.slice (some ⟨gg, 0, none⟩) n cg) (.string KN) (.int .u64 (S : Int))) := HG5.out.below hl6
  have HQ6 : Hid (RwT w6 gg n l) := HQ5.out.below hl6
  clear hl6 C5 p0 p1 p2 p3 p4 p5 q0 q1 q2 q3 q4 q5 HX5 HR5 HY5 HB5 HG5 HQ5
  have HCD : Hid (Below W0.heap.size W0 w6.drew) := C6.drew
  have HD6 : Hid (Below w6.heap.size w6 w6.drew) := (Below.refl _ _).drew
  have HSX : Hid (∀ W, Below w6.heap.size w6 W → (W.cell? ⟨w3.heap.size, 0, none⟩ = some (.string path) ∧ W.cell? ⟨w3.heap.size, 1, none⟩ = some (.string sum) ∧ W.cell? ⟨w3.heap.size, 2, none⟩ = some (.int .i64 z) ∧ W.cell? ⟨w3.heap.size, 3, none⟩ = some (.slice (some ⟨gx, 0, none⟩) n n) ∧ W.cell? ⟨w3.heap.size, 4, none⟩ = some (.string key) ∧ W.cell? ⟨w3.heap.size, 5, none⟩ = some (.int .u64 (sig : Int))) ∧ W.cell? ⟨w.heap.size, 0, none⟩ = some (.string path) ∧ W.cell? ⟨w.heap.size, 1, none⟩ = some (.string sum) ∧ W.cell? ⟨w.heap.size, 2, none⟩ = some (.int .i64 z) ∧ W.cell? ⟨w.heap.size, 3, none⟩ = some (.slice a n cap) ∧ W.cell? ⟨w.heap.size, 4, none⟩ = some (.string key) ∧ W.cell? ⟨w.heap.size, 5, none⟩ = some (.int .u64 (sig : Int))) := fun W h => ⟨HB6.out.below h, (HKC.out _ (C6.trans (h.mono C6.size))).1⟩
  go_wp2_with fail
  go_region_held3 (fun W => (W.cell? ⟨w3.heap.size, 0, none⟩ = some (.string path) ∧ W.cell? ⟨w3.heap.size, 1, none⟩ = some (.string sum) ∧ W.cell? ⟨w3.heap.size, 2, none⟩ = some (.int .i64 z) ∧ W.cell? ⟨w3.heap.size, 3, none⟩ = some (.slice (some ⟨gx, 0, none⟩) n n) ∧ W.cell? ⟨w3.heap.size, 4, none⟩ = some (.string key) ∧ W.cell? ⟨w3.heap.size, 5, none⟩ = some (.int .u64 (sig : Int))) ∧ W.cell? ⟨w.heap.size, 0, none⟩ = some (.string path) ∧ W.cell? ⟨w.heap.size, 1, none⟩ = some (.string sum) ∧ W.cell? ⟨w.heap.size, 2, none⟩ = some (.int .i64 z) ∧ W.cell? ⟨w.heap.size, 3, none⟩ = some (.slice a n cap) ∧ W.cell? ⟨w.heap.size, 4, none⟩ = some (.string key) ∧ W.cell? ⟨w.heap.size, 5, none⟩ = some (.int .u64 (sig : Int)))
    (first | exact HSX.out _ HD6.out | exact HSX.out _ D8 | exact HSX.out _ D7 | go_keep)
    (first
      | (go_at_call 8; refine (HTO.out _ (HBW.out _ HCD.out)).mono ?_; rintro e w7 ⟨g7, rfl, hg7, hr7, hl7⟩; have D7 := HD6.out.trans (hl7.mono HD6.out.size))
      | (go_at_call 10; refine (HEQ.out HN.out _ _ _ _ _ _ _ (HY6.out.below D7) hr7).mono ?_; rintro e w8 ⟨rfl, hl8⟩; have D8 := D7.trans (hl8.mono D7.size)))
  have C8 := C6.trans (D8.mono C6.size)
  have HX8 : Hid (SixC w8 bw (.string path) (.string sum) (.int .i64 z) (.slice (some ⟨gw, 0, none⟩) n cw) (.string KN) (.int .u64 (S : Int))) := HX6.out.below D8
  have HR8 : Hid (RwT w8 gw n l) := HR6.out.below D8
  have HY8 : Hid (RwT w8 gx n l) := HY6.out.below D8
  have HB8 : Hid (SixC w8 w3.heap.size (.string path) (.string sum) (.int .i64 z) (.slice (some ⟨gx, 0, none⟩) n n) (.string key) (.int .u64 (sig : Int))) := HB6.out.below D8
  have HG8 : Hid (SixC w8 bg (.string path) (.string sum) (.int .i64 z) (.slice (some ⟨gg, 0, none⟩) n cg) (.string KN) (.int .u64 (S : Int))) := HG6.out.below D8
  have HQ8 : Hid (RwT w8 gg n l) := HQ6.out.below D8
  clear hg7 hr7 hl7 D7 hl8 D8 HCD HD6 HSX C6 HX6 HR6 HY6 HB6 HG6 HQ6
  obtain ⟨M, hM⟩ : ∃ M : Int, M = ((1 + n : Nat) : Int) := ⟨_, rfl⟩
  have hM0 : ¬ M < 0 := by omega
  have HMM : Hid (M = ((1 + n : Nat) : Int)) := hM
  clear hM
  obtain ⟨p0, p1, p2, p3, p4, p5⟩ := HB8.out
  go_wp2_with (first | (go_at_call 14; refine (markM_any _ _ _ _ _ _ _ _ M HMM.out l _ HY8.out HN.out).mono ?_; rintro e w9 ⟨rfl, -, hg9⟩; refine Hid.out ?_) | go_in)
  refine Lib.hid ?_
  have C9 := grow_below C8 hg9 C8.size HNE.out.2.2.1
  have HX9 : Hid (SixC w9 bw (.string path) (.string sum) (.int .i64 z) (.slice (some ⟨gw, 0, none⟩) n cw) (.string KN) (.int .u64 (S : Int))) := HX8.out.grown hg9 HNE.out.1.1
  have HR9 : Hid (RwT w9 gw n l) := HR8.out.grown hg9 HNE.out.1.2.1
  have HG9 : Hid (SixC w9 bg (.string path) (.string sum) (.int .i64 z) (.slice (some ⟨gg, 0, none⟩) n cg) (.string KN) (.int .u64 (S : Int))) := HG8.out.grown hg9 HNE.out.1.2.2.2.1
  have HQ9 : Hid (RwT w9 gg n l) := HQ8.out.grown hg9 HNE.out.1.2.2.2.2
  clear hg9 C8 p0 p1 p2 p3 p4 p5 HX8 HR8 HY8 HB8 HG8 HQ8
  obtain ⟨p0, p1, p2, p3, p4, p5⟩ := HG9.out
  obtain ⟨q0, q1, q2, q3, q4, q5⟩ := HX9.out
  go_wp2_with (first | (go_at_call 10; refine (HEQ.out HN.out _ _ _ _ _ _ _ HQ9.out HR9.out).mono ?_; rintro e w10 ⟨rfl, hl10⟩; refine Hid.out ?_) | go_in)
  refine Lib.hid ?_
  have C10 := C9.trans (hl10.mono C9.size)
  have HX10 : Hid (SixC w10 bw (.string path) (.string sum) (.int .i64 z) (.slice (some ⟨gw, 0, none⟩) n cw) (.string KN) (.int .u64 (S : Int))) := HX9.out.below hl10
  have HR10 : Hid (RwT w10 gw n l) := HR9.out.below hl10
  have HG10 : Hid (SixC w10 bg (.string path) (.string sum) (.int .i64 z) (.slice (some ⟨gg, 0, none⟩) n cg) (.string KN) (.int .u64 (S : Int))) := HG9.out.below hl10
  have HQ10 : Hid (RwT w10 gg n l) := HQ9.out.below hl10
  clear hl10 C9 p0 p1 p2 p3 p4 p5 q0 q1 q2 q3 q4 q5 HX9 HR9 HG9 HQ9
  obtain ⟨p0, p1, p2, p3, p4, p5⟩ := HG10.out
  go_wp2_with (first | (go_at_call 14; refine (markM_any _ _ _ _ _ _ _ _ M HMM.out l _ HQ10.out HN.out).mono ?_; rintro e w11 ⟨rfl, hm11, hg11⟩; refine Hid.out ?_) | go_in)
  refine Lib.hid ?_
  have C11 := grow_below C10 hg11 C10.size HNE.out.2.2.2
  have HM11 : Hid (sr.MkR w11 gg 0 n 1 n) := hm11
  have HX11 : Hid (SixC w11 bw (.string path) (.string sum) (.int .i64 z) (.slice (some ⟨gw, 0, none⟩) n cw) (.string KN) (.int .u64 (S : Int))) := HX10.out.grown hg11 HNE.out.2.1.1
  have HR11 : Hid (RwT w11 gw n l) := HR10.out.grown hg11 HNE.out.2.1.2.1
  have HG11 : Hid (SixC w11 bg (.string path) (.string sum) (.int .i64 z) (.slice (some ⟨gg, 0, none⟩) n cg) (.string KN) (.int .u64 (S : Int))) := HG10.out.grown hg11 HNE.out.2.1.2.2
  clear hm11 hg11 C10 p0 p1 p2 p3 p4 p5 HX10 HR10 HG10 HQ10
  obtain ⟨p0, p1, p2, p3, p4, p5⟩ := HG11.out
  go_wp2_with (first | (go_at_call 15; refine (heldM_any _ _ _ _ _ _ _ _ M HMM.out _ HM11.out HN.out).mono ?_; rintro e w12 ⟨rfl, hl12⟩; refine Hid.out ?_) | go_in)
  refine Lib.hid ?_
  have C12 := C11.trans (hl12.mono C11.size)
  have HM12 : Hid (sr.MkR w12 gg 0 n 1 n) := HM11.out.below hl12
  have HX12 : Hid (SixC w12 bw (.string path) (.string sum) (.int .i64 z) (.slice (some ⟨gw, 0, none⟩) n cw) (.string KN) (.int .u64 (S : Int))) := HX11.out.below hl12
  have HR12 : Hid (RwT w12 gw n l) := HR11.out.below hl12
  have HG12 : Hid (SixC w12 bg (.string path) (.string sum) (.int .i64 z) (.slice (some ⟨gg, 0, none⟩) n cg) (.string KN) (.int .u64 (S : Int))) := HG11.out.below hl12
  clear hl12 C11 HM11 p0 p1 p2 p3 p4 p5 HX11 HR11 HG11
  go_upto_region 26 with fail
  go_cut [14] from 15 (fun p wx => Bx w12 wx p path sum KN z S l n)
  case first =>
    have D0 : Below w12.heap.size w12 w12.drew := (Below.refl _ _).drew
    have HCC : Hid (∀ W, Below w12.heap.size w12 W → Below w.heap.size w W) := fun W h => HBW.out _ (C12.trans (h.mono C12.size))
    have HS : Hid (∀ W, Below w12.heap.size w12 W → (W.cell? ⟨w.heap.size, 0, none⟩ = some (.string path) ∧ W.cell? ⟨w.heap.size, 1, none⟩ = some (.string sum) ∧ W.cell? ⟨w.heap.size, 2, none⟩ = some (.int .i64 z) ∧ W.cell? ⟨w.heap.size, 3, none⟩ = some (.slice a n cap) ∧ W.cell? ⟨w.heap.size, 4, none⟩ = some (.string key) ∧ W.cell? ⟨w.heap.size, 5, none⟩ = some (.int .u64 (sig : Int))) ∧ W.cell? ⟨w.heap.size + 1, 0, none⟩ = some (.int .u64 (N : Int)) ∧ W.cell? ⟨w.heap.size + 1, 1, none⟩ = some (.int .u64 (E : Int)) ∧ W.cell? ⟨w.heap.size + 1, 2, none⟩ = some (.int .u64 (D : Int))) := fun W h => HKC.out _ (C12.trans (h.mono C12.size))
    clear HKC HEQ HX12 HR12 HG12 HM12
    refine wp_region_held_drew (S := (fun W => (W.cell? ⟨w.heap.size, 0, none⟩ = some (.string path) ∧ W.cell? ⟨w.heap.size, 1, none⟩ = some (.string sum) ∧ W.cell? ⟨w.heap.size, 2, none⟩ = some (.int .i64 z) ∧ W.cell? ⟨w.heap.size, 3, none⟩ = some (.slice a n cap) ∧ W.cell? ⟨w.heap.size, 4, none⟩ = some (.string key) ∧ W.cell? ⟨w.heap.size, 5, none⟩ = some (.int .u64 (sig : Int))) ∧ W.cell? ⟨w.heap.size + 1, 0, none⟩ = some (.int .u64 (N : Int)) ∧ W.cell? ⟨w.heap.size + 1, 1, none⟩ = some (.int .u64 (E : Int)) ∧ W.cell? ⟨w.heap.size + 1, 2, none⟩ = some (.int .u64 (D : Int)))) (by kernel_rfl) (HS.out _ D0) (fun hHeld => ?_)
    refine wpAnyH_take (i := 0) (oi := ⟨some 67, .load 25 (.tmp 3), 25, "exact.go:7538", #[], none⟩) (v := ?v4) rfl (by kernel_rfl) (by kernel_rfl) (by kernel_rfl) (fun _ _ _ h => h) (Or.inl ⟨by rfl, ?hy4⟩) (by assumption) ?r4
    case hy4 => (intro w hSw; (try dsimp only at hSw); go_simp; try with_reducible rfl)
    try simp only [Act.put, List.setIfInBounds_toArray, List.set_cons_zero, List.set_cons_succ]
    refine wpAnyH_take (i := 2) (oi := ⟨some 69, .move (.tmp 1), 9, "exact.go:7538", #[], none⟩) (v := ?v5) rfl (by kernel_rfl) (by kernel_rfl) (by kernel_rfl) (fun _ _ _ h => h) (Or.inl ⟨by rfl, ?hy5⟩) (by assumption) ?r5
    case hy5 => (intro w hSw; (try dsimp only at hSw); go_simp; try with_reducible rfl)
    try simp only [Act.put, List.setIfInBounds_toArray, List.set_cons_zero, List.set_cons_succ]
    refine wpAnyH_take (i := 3) (oi := ⟨some 70, .load 33 (.tmp 5), 33, "exact.go:7538", #[], none⟩) (v := ?v6) rfl (by kernel_rfl) (by kernel_rfl) (by kernel_rfl) (fun _ _ _ h => h) (Or.inl ⟨by rfl, ?hy6⟩) (by assumption) ?r6
    case hy6 => (intro w hSw; (try dsimp only at hSw); go_simp; try with_reducible rfl)
    try simp only [Act.put, List.setIfInBounds_toArray, List.set_cons_zero, List.set_cons_succ]
    refine wpAnyH_ready (rs := [1, 6]) (by kernel_rfl) (by simp) ?_
    refine AllReadyH.cons (o := ⟨some 68, .call { callee := .value (.func 8), args := #[.tmp 67], argTypes := #[25] }, 28, "exact.go:7538", #[⟨0, .data⟩], none⟩) rfl (fun K hK => ?_) (AllReadyH.cons (o := ⟨some 14, .alloc 28, 0, "exact.go:7538", #[], none⟩) rfl (fun K hK => ?_) AllReadyH.nil)
    · go_simp
      go_at_call 8
      refine (HTO.out _ (HCC.out _ D0)).mono ?_
      rintro e y1 ⟨ga, rfl, hga, hra, hl1⟩
      have D1 := D0.trans (hl1.mono D0.size)
      have HRA : Hid (∀ W, Below y1.heap.size y1 W → RwT W ga n l) := fun W h => hra.below h
      try go_wp2_with fail
      refine hK.out _ _ (HS.out _ D1) (fun hHeld => ?_)
      clear hK K
      try simp only [Act.put, List.setIfInBounds_toArray, List.set_cons_zero, List.set_cons_succ]
      refine wpAnyH_ready (rs := [4, 6]) (by kernel_rfl) (by simp) ?_
      refine AllReadyH.cons (o := ⟨some 71, .call { callee := .value (.func 12), args := #[.tmp 70], argTypes := #[33] }, 35, "exact.go:7538", #[⟨3, .data⟩, ⟨1, .chain⟩], none⟩) rfl (fun K hK => ?_) (AllReadyH.cons (o := ⟨some 14, .alloc 28, 0, "exact.go:7538", #[], none⟩) rfl (fun K hK => ?_) AllReadyH.nil)
      · go_simp
        go_at_call 12
        refine (HKY.out _).mono ?_
        rintro e y2 ⟨rfl, hl2⟩
        have D2 := D1.trans (hl2.mono D1.size)
        try go_wp2_with fail
        refine hK.out _ _ (HS.out _ D2) (fun hHeld => ?_)
        clear hK K
        try simp only [Act.put, List.setIfInBounds_toArray, List.set_cons_zero, List.set_cons_succ]
        refine wpAnyH_ready (rs := [5, 6]) (by kernel_rfl) (by simp) ?_
        refine AllReadyH.cons (o := ⟨some 72, .call { callee := .value (.func 13), args := #[.tmp 68, .tmp 69, .tmp 71], argTypes := #[28, 9, 35] }, 28, "exact.go:7538", #[⟨1, .data⟩, ⟨2, .data⟩, ⟨4, .data⟩, ⟨4, .chain⟩], none⟩) rfl (fun K hK => ?_) (AllReadyH.cons (o := ⟨some 14, .alloc 28, 0, "exact.go:7538", #[], none⟩) rfl (fun K hK => ?_) AllReadyH.nil)
        · go_simp
          go_at_call 13
          refine (HIM.out _ ga (HCC.out _ D2) (HRA.out _ (by first | exact hl2 | exact (((Below.refl _ _).alloc (Nat.le_refl _) _).trans (hl2.mono (by simp))) | exact hl2.alloc hl2.size _))).mono ?_
          rintro e y3 ⟨gw, cw, rfl, hgw, hrw, hl3⟩
          have D3 := D2.trans (hl3.mono D2.size)
          try go_wp2_with fail
          refine hK.out _ _ (HS.out _ D3) (fun hHeld => ?_)
          clear hK K
          try simp only [Act.put, List.setIfInBounds_toArray, List.set_cons_zero, List.set_cons_succ]
          refine wpAnyH_ready (rs := [6]) (by kernel_rfl) (by simp) ?_
          refine AllReadyH.cons (o := ⟨some 14, .alloc 28, 0, "exact.go:7538", #[], none⟩) rfl (fun K hK => ?_) AllReadyH.nil
          go_simp
          have DZ := D3.alloc D3.size zM
          have HZ : Hid (∀ W, Below (y3.alloc zM).heap.size (y3.alloc zM) W → SixC W y3.heap.size (.string ⟨#[]⟩) (.string ⟨#[]⟩) (.int .i64 0) (.slice none 0 0) (.string ⟨#[]⟩) (.int .u64 0) ∧ ∀ i, W.frozen? ⟨y3.heap.size, i, none⟩ = false) := zero_at _
          have EZ : Below (y3.alloc zM).heap.size (y3.alloc zM) (y3.alloc zM) := Below.refl _ _
          try go_wp2_with fail
          refine hK.out _ _ (HS.out _ DZ) (fun hHeld => ?_)
          clear hK K
          try simp only [Act.put, List.setIfInBounds_toArray, List.set_cons_zero, List.set_cons_succ]
          skip
          refine wpAnyH_ready (rs := [7]) (by kernel_rfl) (by simp) ?_
          refine AllReadyH.cons (o := ⟨none, .store 28 (.tmp 14) (.tmp 72), 0, "exact.go:7538", #[⟨6, .data⟩, ⟨5, .data⟩, ⟨5, .chain⟩, ⟨0, .phase⟩, ⟨1, .phase⟩, ⟨2, .phase⟩, ⟨3, .phase⟩, ⟨4, .phase⟩, ⟨5, .phase⟩, ⟨6, .phase⟩], none⟩) rfl (fun K hK => ?_) AllReadyH.nil
          go_simp
          try go_wp2_with fail
          refine hK.out _ _ (HS.out _ (D3.alloc D3.size _)) (fun hHeld => ?_)
          clear hK K
          try simp only [Act.put, List.setIfInBounds_toArray, List.set_cons_zero, List.set_cons_succ]
          refine wpAnyH_done (by kernel_rfl) ?_ _
          go_wp2_with fail
          go_meet
          case rel => exact bx_late (yl := y2) D2 hgw hrw D3
        · go_simp
          have DZ := D2.alloc D2.size zM
          have HZ : Hid (∀ W, Below (y2.alloc zM).heap.size (y2.alloc zM) W → SixC W y2.heap.size (.string ⟨#[]⟩) (.string ⟨#[]⟩) (.int .i64 0) (.slice none 0 0) (.string ⟨#[]⟩) (.int .u64 0) ∧ ∀ i, W.frozen? ⟨y2.heap.size, i, none⟩ = false) := zero_at _
          have EZ : Below (y2.alloc zM).heap.size (y2.alloc zM) (y2.alloc zM) := Below.refl _ _
          try go_wp2_with fail
          refine hK.out _ _ (HS.out _ DZ) (fun hHeld => ?_)
          clear hK K
          try simp only [Act.put, List.setIfInBounds_toArray, List.set_cons_zero, List.set_cons_succ]
          refine wpAnyH_ready (rs := [5]) (by kernel_rfl) (by simp) ?_
          refine AllReadyH.cons (o := ⟨some 72, .call { callee := .value (.func 13), args := #[.tmp 68, .tmp 69, .tmp 71], argTypes := #[28, 9, 35] }, 28, "exact.go:7538", #[⟨1, .data⟩, ⟨2, .data⟩, ⟨4, .data⟩, ⟨4, .chain⟩], none⟩) rfl (fun K hK => ?_) AllReadyH.nil
          go_simp
          go_at_call 13
          refine (HIM.out _ ga (HCC.out _ DZ) (HRA.out _ (by first | exact hl2 | exact (((Below.refl _ _).alloc (Nat.le_refl _) _).trans (hl2.mono (by simp))) | exact hl2.alloc hl2.size _))).mono ?_
          rintro e y3 ⟨gw, cw, rfl, hgw, hrw, hl3⟩
          have D3 := DZ.trans (hl3.mono DZ.size)
          have E3 := EZ.trans (hl3.mono EZ.size)
          try go_wp2_with fail
          refine hK.out _ _ (HS.out _ D3) (fun hHeld => ?_)
          clear hK K
          try simp only [Act.put, List.setIfInBounds_toArray, List.set_cons_zero, List.set_cons_succ]
          have hz := HZ.out _ E3
          obtain ⟨⟨d0, d1, d2, d3, d4, d5⟩, f1⟩ : SixC y3 y2.heap.size (.string ⟨#[]⟩) (.string ⟨#[]⟩) (.int .i64 0) (.slice none 0 0) (.string ⟨#[]⟩) (.int .u64 0) ∧ ∀ i, y3.frozen? ⟨y2.heap.size, i, none⟩ = false := hz
          have g1 := f1 0
          refine wpAnyH_ready (rs := [7]) (by kernel_rfl) (by simp) ?_
          refine AllReadyH.cons (o := ⟨none, .store 28 (.tmp 14) (.tmp 72), 0, "exact.go:7538", #[⟨6, .data⟩, ⟨5, .data⟩, ⟨5, .chain⟩, ⟨0, .phase⟩, ⟨1, .phase⟩, ⟨2, .phase⟩, ⟨3, .phase⟩, ⟨4, .phase⟩, ⟨5, .phase⟩, ⟨6, .phase⟩], none⟩) rfl (fun K hK => ?_) AllReadyH.nil
          go_simp
          try go_wp2_with fail
          refine hK.out _ _ (HS.out _ (six_bel D3 D2.size)) (fun hHeld => ?_)
          clear hK K
          try simp only [Act.put, List.setIfInBounds_toArray, List.set_cons_zero, List.set_cons_succ]
          refine wpAnyH_done (by kernel_rfl) ?_ _
          go_wp2_with fail
          go_meet
          case rel => exact bx_early (wp := y2) (yl := (y2.alloc zM)) D2 (Nat.le_refl _) hgw hrw D3 E3
      · go_simp
        have DZ := D1.alloc D1.size zM
        have HZ : Hid (∀ W, Below (y1.alloc zM).heap.size (y1.alloc zM) W → SixC W y1.heap.size (.string ⟨#[]⟩) (.string ⟨#[]⟩) (.int .i64 0) (.slice none 0 0) (.string ⟨#[]⟩) (.int .u64 0) ∧ ∀ i, W.frozen? ⟨y1.heap.size, i, none⟩ = false) := zero_at _
        have EZ : Below (y1.alloc zM).heap.size (y1.alloc zM) (y1.alloc zM) := Below.refl _ _
        try go_wp2_with fail
        refine hK.out _ _ (HS.out _ DZ) (fun hHeld => ?_)
        clear hK K
        try simp only [Act.put, List.setIfInBounds_toArray, List.set_cons_zero, List.set_cons_succ]
        refine wpAnyH_ready (rs := [4]) (by kernel_rfl) (by simp) ?_
        refine AllReadyH.cons (o := ⟨some 71, .call { callee := .value (.func 12), args := #[.tmp 70], argTypes := #[33] }, 35, "exact.go:7538", #[⟨3, .data⟩, ⟨1, .chain⟩], none⟩) rfl (fun K hK => ?_) AllReadyH.nil
        go_simp
        go_at_call 12
        refine (HKY.out _).mono ?_
        rintro e y2 ⟨rfl, hl2⟩
        have D2 := DZ.trans (hl2.mono DZ.size)
        have E2 := EZ.trans (hl2.mono EZ.size)
        try go_wp2_with fail
        refine hK.out _ _ (HS.out _ D2) (fun hHeld => ?_)
        clear hK K
        try simp only [Act.put, List.setIfInBounds_toArray, List.set_cons_zero, List.set_cons_succ]
        refine wpAnyH_ready (rs := [5]) (by kernel_rfl) (by simp) ?_
        refine AllReadyH.cons (o := ⟨some 72, .call { callee := .value (.func 13), args := #[.tmp 68, .tmp 69, .tmp 71], argTypes := #[28, 9, 35] }, 28, "exact.go:7538", #[⟨1, .data⟩, ⟨2, .data⟩, ⟨4, .data⟩, ⟨4, .chain⟩], none⟩) rfl (fun K hK => ?_) AllReadyH.nil
        go_simp
        go_at_call 13
        refine (HIM.out _ ga (HCC.out _ D2) (HRA.out _ (by first | exact hl2 | exact (((Below.refl _ _).alloc (Nat.le_refl _) _).trans (hl2.mono (by simp))) | exact hl2.alloc hl2.size _))).mono ?_
        rintro e y3 ⟨gw, cw, rfl, hgw, hrw, hl3⟩
        have D3 := D2.trans (hl3.mono D2.size)
        have E3 := E2.trans (hl3.mono E2.size)
        try go_wp2_with fail
        refine hK.out _ _ (HS.out _ D3) (fun hHeld => ?_)
        clear hK K
        try simp only [Act.put, List.setIfInBounds_toArray, List.set_cons_zero, List.set_cons_succ]
        have hz := HZ.out _ E3
        obtain ⟨⟨d0, d1, d2, d3, d4, d5⟩, f1⟩ : SixC y3 y1.heap.size (.string ⟨#[]⟩) (.string ⟨#[]⟩) (.int .i64 0) (.slice none 0 0) (.string ⟨#[]⟩) (.int .u64 0) ∧ ∀ i, y3.frozen? ⟨y1.heap.size, i, none⟩ = false := hz
        have g1 := f1 0
        refine wpAnyH_ready (rs := [7]) (by kernel_rfl) (by simp) ?_
        refine AllReadyH.cons (o := ⟨none, .store 28 (.tmp 14) (.tmp 72), 0, "exact.go:7538", #[⟨6, .data⟩, ⟨5, .data⟩, ⟨5, .chain⟩, ⟨0, .phase⟩, ⟨1, .phase⟩, ⟨2, .phase⟩, ⟨3, .phase⟩, ⟨4, .phase⟩, ⟨5, .phase⟩, ⟨6, .phase⟩], none⟩) rfl (fun K hK => ?_) AllReadyH.nil
        go_simp
        try go_wp2_with fail
        refine hK.out _ _ (HS.out _ (six_bel D3 D1.size)) (fun hHeld => ?_)
        clear hK K
        try simp only [Act.put, List.setIfInBounds_toArray, List.set_cons_zero, List.set_cons_succ]
        refine wpAnyH_done (by kernel_rfl) ?_ _
        go_wp2_with fail
        go_meet
        case rel => exact bx_early (wp := y1) (yl := y2) D1 (E2.size) hgw hrw D3 E3
    · go_simp
      have DZ := D0.alloc D0.size zM
      have HZ : Hid (∀ W, Below (w12.drew.alloc zM).heap.size (w12.drew.alloc zM) W → SixC W w12.drew.heap.size (.string ⟨#[]⟩) (.string ⟨#[]⟩) (.int .i64 0) (.slice none 0 0) (.string ⟨#[]⟩) (.int .u64 0) ∧ ∀ i, W.frozen? ⟨w12.drew.heap.size, i, none⟩ = false) := zero_at _
      have EZ : Below (w12.drew.alloc zM).heap.size (w12.drew.alloc zM) (w12.drew.alloc zM) := Below.refl _ _
      try go_wp2_with fail
      refine hK.out _ _ (HS.out _ DZ) (fun hHeld => ?_)
      clear hK K
      try simp only [Act.put, List.setIfInBounds_toArray, List.set_cons_zero, List.set_cons_succ]
      refine wpAnyH_ready (rs := [1]) (by kernel_rfl) (by simp) ?_
      refine AllReadyH.cons (o := ⟨some 68, .call { callee := .value (.func 8), args := #[.tmp 67], argTypes := #[25] }, 28, "exact.go:7538", #[⟨0, .data⟩], none⟩) rfl (fun K hK => ?_) AllReadyH.nil
      go_simp
      go_at_call 8
      refine (HTO.out _ (HCC.out _ DZ)).mono ?_
      rintro e y1 ⟨ga, rfl, hga, hra, hl1⟩
      have D1 := DZ.trans (hl1.mono DZ.size)
      have HRA : Hid (∀ W, Below y1.heap.size y1 W → RwT W ga n l) := fun W h => hra.below h
      have E1 := EZ.trans (hl1.mono EZ.size)
      try go_wp2_with fail
      refine hK.out _ _ (HS.out _ D1) (fun hHeld => ?_)
      clear hK K
      try simp only [Act.put, List.setIfInBounds_toArray, List.set_cons_zero, List.set_cons_succ]
      refine wpAnyH_ready (rs := [4]) (by kernel_rfl) (by simp) ?_
      refine AllReadyH.cons (o := ⟨some 71, .call { callee := .value (.func 12), args := #[.tmp 70], argTypes := #[33] }, 35, "exact.go:7538", #[⟨3, .data⟩, ⟨1, .chain⟩], none⟩) rfl (fun K hK => ?_) AllReadyH.nil
      go_simp
      go_at_call 12
      refine (HKY.out _).mono ?_
      rintro e y2 ⟨rfl, hl2⟩
      have D2 := D1.trans (hl2.mono D1.size)
      have E2 := E1.trans (hl2.mono E1.size)
      try go_wp2_with fail
      refine hK.out _ _ (HS.out _ D2) (fun hHeld => ?_)
      clear hK K
      try simp only [Act.put, List.setIfInBounds_toArray, List.set_cons_zero, List.set_cons_succ]
      refine wpAnyH_ready (rs := [5]) (by kernel_rfl) (by simp) ?_
      refine AllReadyH.cons (o := ⟨some 72, .call { callee := .value (.func 13), args := #[.tmp 68, .tmp 69, .tmp 71], argTypes := #[28, 9, 35] }, 28, "exact.go:7538", #[⟨1, .data⟩, ⟨2, .data⟩, ⟨4, .data⟩, ⟨4, .chain⟩], none⟩) rfl (fun K hK => ?_) AllReadyH.nil
      go_simp
      go_at_call 13
      refine (HIM.out _ ga (HCC.out _ D2) (HRA.out _ (by first | exact hl2 | exact (((Below.refl _ _).alloc (Nat.le_refl _) _).trans (hl2.mono (by simp))) | exact hl2.alloc hl2.size _))).mono ?_
      rintro e y3 ⟨gw, cw, rfl, hgw, hrw, hl3⟩
      have D3 := D2.trans (hl3.mono D2.size)
      have E3 := E2.trans (hl3.mono E2.size)
      try go_wp2_with fail
      refine hK.out _ _ (HS.out _ D3) (fun hHeld => ?_)
      clear hK K
      try simp only [Act.put, List.setIfInBounds_toArray, List.set_cons_zero, List.set_cons_succ]
      have hz := HZ.out _ E3
      obtain ⟨⟨d0, d1, d2, d3, d4, d5⟩, f1⟩ : SixC y3 w12.heap.size (.string ⟨#[]⟩) (.string ⟨#[]⟩) (.int .i64 0) (.slice none 0 0) (.string ⟨#[]⟩) (.int .u64 0) ∧ ∀ i, y3.frozen? ⟨w12.heap.size, i, none⟩ = false := hz
      have g1 := f1 0
      refine wpAnyH_ready (rs := [7]) (by kernel_rfl) (by simp) ?_
      refine AllReadyH.cons (o := ⟨none, .store 28 (.tmp 14) (.tmp 72), 0, "exact.go:7538", #[⟨6, .data⟩, ⟨5, .data⟩, ⟨5, .chain⟩, ⟨0, .phase⟩, ⟨1, .phase⟩, ⟨2, .phase⟩, ⟨3, .phase⟩, ⟨4, .phase⟩, ⟨5, .phase⟩, ⟨6, .phase⟩], none⟩) rfl (fun K hK => ?_) AllReadyH.nil
      go_simp
      try go_wp2_with fail
      refine hK.out _ _ (HS.out _ (six_bel D3 D0.size)) (fun hHeld => ?_)
      clear hK K
      try simp only [Act.put, List.setIfInBounds_toArray, List.set_cons_zero, List.set_cons_succ]
      refine wpAnyH_done (by kernel_rfl) ?_ _
      go_wp2_with fail
      go_meet
      case rel => exact bx_early (wp := w12.drew) (yl := y2) D0 (E2.size) hgw hrw D3 E3
  case rest =>
  obtain ⟨w13, rfl⟩ : ∃ w13, w13 = wc := ⟨_, rfl⟩
  obtain ⟨bh, gh, ch, rfl, hx13, hr13, -, -, -, hl13⟩ := hcut
  have C13 := C12.trans (hl13.mono C12.size)
  have HM13 : Hid (sr.MkR w13 gg 0 n 1 n) := HM12.out.below hl13
  have HX13 : Hid (SixC w13 bw (.string path) (.string sum) (.int .i64 z) (.slice (some ⟨gw, 0, none⟩) n cw) (.string KN) (.int .u64 (S : Int))) := HX12.out.below hl13
  have HR13 : Hid (RwT w13 gw n l) := HR12.out.below hl13
  have HG13 : Hid (SixC w13 bg (.string path) (.string sum) (.int .i64 z) (.slice (some ⟨gg, 0, none⟩) n cg) (.string KN) (.int .u64 (S : Int))) := HG12.out.below hl13
  have HH13 : Hid (SixC w13 bh (.string path) (.string sum) (.int .i64 z) (.slice (some ⟨gh, 0, none⟩) n ch) (.string KN) (.int .u64 (S : Int))) := hx13
  have HQ13 : Hid (RwT w13 gh n l) := hr13
  clear hx13 hr13 hl13 C12 HM12 HX12 HR12 HG12
  obtain ⟨p0, p1, p2, p3, p4, p5⟩ := HH13.out
  obtain ⟨q0, q1, q2, q3, q4, q5⟩ := HX13.out
  go_wp2_with (first | (go_at_call 10; refine (HEQ.out HN.out _ _ _ _ _ _ _ HQ13.out HR13.out).mono ?_; rintro e w14 ⟨rfl, hl14⟩; refine Hid.out ?_) | go_in)
  refine Lib.hid ?_
  have C14 := C13.trans (hl14.mono C13.size)
  have HM14 : Hid (sr.MkR w14 gg 0 n 1 n) := HM13.out.below hl14
  have HG14 : Hid (SixC w14 bg (.string path) (.string sum) (.int .i64 z) (.slice (some ⟨gg, 0, none⟩) n cg) (.string KN) (.int .u64 (S : Int))) := HG13.out.below hl14
  clear hl14 C13 HM13 p0 p1 p2 p3 p4 p5 q0 q1 q2 q3 q4 q5 HH13 HQ13 HX13 HR13 HG13
  obtain ⟨p0, p1, p2, p3, p4, p5⟩ := HG14.out
  go_wp2_with (first | (go_at_call 15; refine (heldM_any _ _ _ _ _ _ _ _ M HMM.out _ HM14.out HN.out).mono ?_; rintro e w15 ⟨rfl, hl15⟩; refine Hid.out ?_) | go_in)
  refine Lib.hid ?_
  have B15 := HBW.out _ (C14.trans (hl15.mono C14.size))
  clear hl15 C14
  go_wp2
  go_ret
  exact ⟨rfl, B15⟩

end Go.Proofs.YtheponigjofknaaDoor.mt
