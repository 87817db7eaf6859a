import Derived.Test.YtheponigjofknaaDoorMN
import Derived.Deep.RegionHeld3
namespace Go.Proofs.YtheponigjofknaaDoor.mt
open Go.ChangeShapes Go.WideShapes Go.ChangeAt Go.RowKit Go.Deep
set_option linter.unusedVariables false
set_option linter.unusedSimpArgs false

theorem zero_six {w : World} {o : Obj} {v0 v1 v2 v3 v4 v5 : Value} {t : TypeId} : ∀ W, Below ((w.alloc o).alloc (.cells #[v0, v1, v2, v3, v4, v5] t)).heap.size ((w.alloc o).alloc (.cells #[v0, v1, v2, v3, v4, v5] t)) W → SixC W (w.heap.size + 1) v0 v1 v2 v3 v4 v5 ∧ ∀ i, W.frozen? ⟨w.heap.size + 1, i, none⟩ = false := fun W h => by
  obtain ⟨k1, k2⟩ := bcell h
  refine ⟨⟨(k1 _ _ (by simp)).trans (by simp [go_sem]), (k1 _ _ (by simp)).trans (by simp [go_sem]), (k1 _ _ (by simp)).trans (by simp [go_sem]), (k1 _ _ (by simp)).trans (by simp [go_sem]), (k1 _ _ (by simp)).trans (by simp [go_sem]), (k1 _ _ (by simp)).trans (by simp [go_sem])⟩, fun i => (k2 _ _ (by simp)).trans (by simp [go_sem])⟩

theorem six_far {W : World} {b c : Nat} {v0 v1 v2 v3 v4 v5 u0 u1 u2 u3 u4 u5 : Value} (hne : b ≠ c) (h : SixC W c u0 u1 u2 u3 u4 u5) : SixC ((((((W.setCell ⟨b, 0, none⟩ v0).setCell ⟨b, 1, none⟩ v1).setCell ⟨b, 2, none⟩ v2).setCell ⟨b, 3, none⟩ v3).setCell ⟨b, 4, none⟩ v4).setCell ⟨b, 5, none⟩ v5) c u0 u1 u2 u3 u4 u5 :=
  (((((h.far hne).far hne).far hne).far hne).far hne).far hne
theorem six_blk {W : World} {b c : Nat} {v0 v1 v2 v3 v4 v5 : Value} (h : c ≠ b) : ((((((W.setCell ⟨b, 0, none⟩ v0).setCell ⟨b, 1, none⟩ v1).setCell ⟨b, 2, none⟩ v2).setCell ⟨b, 3, none⟩ v3).setCell ⟨b, 4, none⟩ v4).setCell ⟨b, 5, none⟩ v5).heap[c]? = W.heap[c]? := by
  rw [blk_oth h, blk_oth h, blk_oth h, blk_oth h, blk_oth h, blk_oth h]
theorem six_bel {w W : World} {B b : Nat} {v0 v1 v2 v3 v4 v5 : Value} (hb : Below B w W) (h : B ≤ b) : Below B w ((((((W.setCell ⟨b, 0, none⟩ v0).setCell ⟨b, 1, none⟩ v1).setCell ⟨b, 2, none⟩ v2).setCell ⟨b, 3, none⟩ v3).setCell ⟨b, 4, none⟩ v4).setCell ⟨b, 5, none⟩ v5) :=
  (((((hb.setCell h _).setCell h _).setCell h _).setCell h _).setCell h _).setCell h _

set_option maxRecDepth 100000 in
set_option maxHeartbeats 4000000 in
theorem iclone_any (path sum key : ByteArray) (z : Int) (sig : Nat) (l : List ByteArray) (a : Option Addr) (n cap : Nat) (w : World) (hb : st.Ss w a n l) (hn : n ≤ 1048576) (hs : ∀ i, i < n → (st.atS l i).size ≤ 1048576) (hp : path.size ≤ 1048576) (hsu : sum.size ≤ 1048576) (hk : key.size ≤ 1048576) :
    Calls Tryd.prog 28 #[.agg #[.string path, .string sum, .int .i64 z, .slice a n cap, .string key, .int .u64 (sig : Int)]] w fun e w' => ∃ g, e = .returned (.agg #[.string path, .string sum, .int .i64 z, .slice (some ⟨g, 0, none⟩) n n, .string key, .int .u64 (sig : Int)]) ∧ w.heap.size ≤ g ∧ RwT w' g n l ∧ Below w.heap.size w w' := by
  obtain ⟨o, ho⟩ : ∃ o : Obj, o = .cells #[.string path, .string sum, .int .i64 z, .slice a n cap, .string key, .int .u64 (sig : Int)] 28 := ⟨_, rfl⟩
  obtain ⟨oz, hoz⟩ : ∃ oz : Obj, oz = .cells #[.string ⟨#[]⟩, .string ⟨#[]⟩, .int .i64 0, .slice none 0 0, .string ⟨#[]⟩, .int .u64 0] 28 := ⟨_, rfl⟩
  have HBW : Hid (∀ W, Below ((w.alloc o).alloc oz).heap.size ((w.alloc o).alloc oz) W → Below w.heap.size w W) := fun W h => (((Below.refl _ _).alloc (Nat.le_refl _) o).alloc (by simp) oz).trans (h.mono (by simp; omega))
  have HKC : Hid (∀ W, Below ((w.alloc o).alloc oz).heap.size ((w.alloc o).alloc oz) W → W.cell? ⟨w.heap.size, 0, none⟩ = some (.string path) ∧ W.cell? ⟨w.heap.size, 1, none⟩ = some (.string sum) ∧ W.cell? ⟨w.heap.size, 2, none⟩ = some (.int .i64 z) ∧ W.cell? ⟨w.heap.size, 3, none⟩ = some (.slice a n cap) ∧ W.cell? ⟨w.heap.size, 4, none⟩ = some (.string key) ∧ W.cell? ⟨w.heap.size, 5, none⟩ = some (.int .u64 (sig : Int))) := fun W h => by
    rw [ho] at h
    exact six_all W (((Below.refl _ _).alloc (Nat.le_refl _) oz).trans (h.mono (by simp)))
  have HKZ : Hid (∀ W, Below ((w.alloc o).alloc oz).heap.size ((w.alloc o).alloc oz) W → SixC W (w.heap.size + 1) (.string ⟨#[]⟩) (.string ⟨#[]⟩) (.int .i64 0) (.slice none 0 0) (.string ⟨#[]⟩) (.int .u64 0) ∧ ∀ i, W.frozen? ⟨w.heap.size + 1, i, none⟩ = false) := by rw [hoz]; exact zero_six
  have HCP : Hid (∀ W : World, Calls Tryd.prog 52 #[.string path] W fun e w' => e = .returned (.string path) ∧ Below W.heap.size W w') := fun W => cl.clone_any _ W (by omega)
  have HCS : Hid (∀ W : World, Calls Tryd.prog 52 #[.string sum] W fun e w' => e = .returned (.string sum) ∧ Below W.heap.size W w') := fun W => cl.clone_any _ W (by omega)
  have HCK : Hid (∀ W : World, Calls Tryd.prog 52 #[.string key] W fun e w' => e = .returned (.string key) ∧ Below W.heap.size W w') := fun W => cl.clone_any _ W (by omega)
  have HCT : Hid (∀ W, Below w.heap.size w W → Calls Tryd.prog 53 #[.slice a n cap] W fun e w' => e = .returned (.slice (some ⟨W.heap.size, 0, none⟩) n n) ∧ RwT w' W.heap.size n l ∧ Below W.heap.size W w') := fun W h => clonedB_any l n cap a W (hb.below h) hn hs
  have hb0 : Below ((w.alloc o).alloc oz).heap.size ((w.alloc o).alloc oz) ((w.alloc o).alloc oz).drew := (Below.refl _ _).drew
  rw [ho, hoz] at hb0
  clear hb hn hs hp hsu hk
  have HH : Hid (o = .cells #[.string path, .string sum, .int .i64 z, .slice a n cap, .string key, .int .u64 (sig : Int)] 28 ∧ oz = .cells #[.string ⟨#[]⟩, .string ⟨#[]⟩, .int .i64 0, .slice none 0 0, .string ⟨#[]⟩, .int .u64 0] 28) := ⟨ho, hoz⟩
  subst ho hoz
  clear HH
  go_enter Tryd.func28, Tryd.ntmps28
  go_wp2_with fail
  refine wp_region_held_drew (S := (fun W => W.cell? ⟨w.heap.size, 0, none⟩ = some (.string path) ∧ W.cell? ⟨w.heap.size, 1, none⟩ = some (.string sum) ∧ W.cell? ⟨w.heap.size, 2, none⟩ = some (.int .i64 z) ∧ W.cell? ⟨w.heap.size, 3, none⟩ = some (.slice a n cap) ∧ W.cell? ⟨w.heap.size, 4, none⟩ = some (.string key) ∧ W.cell? ⟨w.heap.size, 5, none⟩ = some (.int .u64 (sig : Int)))) (by kernel_rfl) (HKC.out _ hb0) (fun hHeld => ?_)
  refine wpAnyH_take (i := 0) (oi := ⟨some 3, .fieldAddr 28 (.tmp 1) 0, 0, "l16_cache.go:95", #[], none⟩) (v := ?v1) rfl (by kernel_rfl) (by kernel_rfl) (by kernel_rfl) (fun _ _ _ h => h) (Or.inl ⟨by rfl, ?hy1⟩) (by assumption) ?r1
  case hy1 => (intro w hSw; (try dsimp only at hSw); go_simp; try with_reducible rfl)
  try simp only [Act.put, List.setIfInBounds_toArray, List.set_cons_zero, List.set_cons_succ]
  refine wpAnyH_take (i := 1) (oi := ⟨some 4, .load 9 (.tmp 3), 9, "l16_cache.go:95", #[⟨0, .data⟩], none⟩) (v := ?v2) rfl (by kernel_rfl) (by kernel_rfl) (by kernel_rfl) (fun _ _ _ h => h) (Or.inl ⟨by rfl, ?hy2⟩) (by assumption) ?r2
  case hy2 => (intro w hSw; (try dsimp only at hSw); go_simp; try with_reducible rfl)
  try simp only [Act.put, List.setIfInBounds_toArray, List.set_cons_zero, List.set_cons_succ]
  refine wpAnyH_take (i := 3) (oi := ⟨some 6, .fieldAddr 28 (.tmp 1) 1, 0, "l16_cache.go:95", #[], none⟩) (v := ?v3) rfl (by kernel_rfl) (by kernel_rfl) (by kernel_rfl) (fun _ _ _ h => h) (Or.inl ⟨by rfl, ?hy3⟩) (by assumption) ?r3
  case hy3 => (intro w hSw; (try dsimp only at hSw); go_simp; try with_reducible rfl)
  try simp only [Act.put, List.setIfInBounds_toArray, List.set_cons_zero, List.set_cons_succ]
  refine wpAnyH_take (i := 4) (oi := ⟨some 7, .load 9 (.tmp 6), 9, "l16_cache.go:95", #[⟨3, .data⟩], none⟩) (v := ?v4) rfl (by kernel_rfl) (by kernel_rfl) (by kernel_rfl) (fun _ _ _ h => h) (Or.inl ⟨by rfl, ?hy4⟩) (by assumption) ?r4
  case hy4 => (intro w hSw; (try dsimp only at hSw); go_simp; try with_reducible rfl)
  try simp only [Act.put, List.setIfInBounds_toArray, List.set_cons_zero, List.set_cons_succ]
  refine wpAnyH_take (i := 6) (oi := ⟨some 9, .fieldAddr 28 (.tmp 1) 2, 0, "l16_cache.go:95", #[], none⟩) (v := ?v5) rfl (by kernel_rfl) (by kernel_rfl) (by kernel_rfl) (fun _ _ _ h => h) (Or.inl ⟨by rfl, ?hy5⟩) (by assumption) ?r5
  case hy5 => (intro w hSw; (try dsimp only at hSw); go_simp; try with_reducible rfl)
  try simp only [Act.put, List.setIfInBounds_toArray, List.set_cons_zero, List.set_cons_succ]
  refine wpAnyH_take (i := 7) (oi := ⟨some 10, .load 2 (.tmp 9), 2, "l16_cache.go:95", #[⟨6, .data⟩], none⟩) (v := ?v6) rfl (by kernel_rfl) (by kernel_rfl) (by kernel_rfl) (fun _ _ _ h => h) (Or.inl ⟨by rfl, ?hy6⟩) (by assumption) ?r6
  case hy6 => (intro w hSw; (try dsimp only at hSw); go_simp; try with_reducible rfl)
  try simp only [Act.put, List.setIfInBounds_toArray, List.set_cons_zero, List.set_cons_succ]
  refine wpAnyH_take (i := 8) (oi := ⟨some 11, .fieldAddr 28 (.tmp 1) 3, 0, "l16_cache.go:95", #[], none⟩) (v := ?v7) rfl (by kernel_rfl) (by kernel_rfl) (by kernel_rfl) (fun _ _ _ h => h) (Or.inl ⟨by rfl, ?hy7⟩) (by assumption) ?r7
  case hy7 => (intro w hSw; (try dsimp only at hSw); go_simp; try with_reducible rfl)
  try simp only [Act.put, List.setIfInBounds_toArray, List.set_cons_zero, List.set_cons_succ]
  refine wpAnyH_take (i := 9) (oi := ⟨some 12, .load 22 (.tmp 11), 22, "l16_cache.go:95", #[⟨8, .data⟩], none⟩) (v := ?v8) rfl (by kernel_rfl) (by kernel_rfl) (by kernel_rfl) (fun _ _ _ h => h) (Or.inl ⟨by rfl, ?hy8⟩) (by assumption) ?r8
  case hy8 => (intro w hSw; (try dsimp only at hSw); go_simp; try with_reducible rfl)
  try simp only [Act.put, List.setIfInBounds_toArray, List.set_cons_zero, List.set_cons_succ]
  refine wpAnyH_take (i := 11) (oi := ⟨some 14, .fieldAddr 28 (.tmp 1) 4, 0, "l16_cache.go:95", #[], none⟩) (v := ?v9) rfl (by kernel_rfl) (by kernel_rfl) (by kernel_rfl) (fun _ _ _ h => h) (Or.inl ⟨by rfl, ?hy9⟩) (by assumption) ?r9
  case hy9 => (intro w hSw; (try dsimp only at hSw); go_simp; try with_reducible rfl)
  try simp only [Act.put, List.setIfInBounds_toArray, List.set_cons_zero, List.set_cons_succ]
  refine wpAnyH_take (i := 12) (oi := ⟨some 15, .load 9 (.tmp 14), 9, "l16_cache.go:95", #[⟨11, .data⟩], none⟩) (v := ?v10) rfl (by kernel_rfl) (by kernel_rfl) (by kernel_rfl) (fun _ _ _ h => h) (Or.inl ⟨by rfl, ?hy10⟩) (by assumption) ?r10
  case hy10 => (intro w hSw; (try dsimp only at hSw); go_simp; try with_reducible rfl)
  try simp only [Act.put, List.setIfInBounds_toArray, List.set_cons_zero, List.set_cons_succ]
  refine wpAnyH_take (i := 14) (oi := ⟨some 17, .fieldAddr 28 (.tmp 1) 5, 0, "l16_cache.go:95", #[], none⟩) (v := ?v11) rfl (by kernel_rfl) (by kernel_rfl) (by kernel_rfl) (fun _ _ _ h => h) (Or.inl ⟨by rfl, ?hy11⟩) (by assumption) ?r11
  case hy11 => (intro w hSw; (try dsimp only at hSw); go_simp; try with_reducible rfl)
  try simp only [Act.put, List.setIfInBounds_toArray, List.set_cons_zero, List.set_cons_succ]
  refine wpAnyH_take (i := 15) (oi := ⟨some 18, .load 23 (.tmp 17), 23, "l16_cache.go:95", #[⟨14, .data⟩], none⟩) (v := ?v12) rfl (by kernel_rfl) (by kernel_rfl) (by kernel_rfl) (fun _ _ _ h => h) (Or.inl ⟨by rfl, ?hy12⟩) (by assumption) ?r12
  case hy12 => (intro w hSw; (try dsimp only at hSw); go_simp; try with_reducible rfl)
  try simp only [Act.put, List.setIfInBounds_toArray, List.set_cons_zero, List.set_cons_succ]
  refine wpAnyH_ready (rs := [2]) (by kernel_rfl) (by simp) ?_
  refine AllReadyH.cons (o := ⟨some 5, .call { callee := .value (.func 52), args := #[.tmp 4], argTypes := #[9] }, 9, "l16_cache.go:96", #[⟨1, .data⟩], none⟩) rfl (fun K hK => ?_) AllReadyH.nil
  go_simp
  go_at_call 52
  refine (HCP.out _).mono ?_
  rintro e w1 ⟨rfl, hl1⟩
  have hb1 := hb0.trans (hl1.mono hb0.size)
  try go_wp2_with fail
  refine hK.out _ _ (HKC.out _ hb1) (fun hHeld => ?_)
  clear hK K
  try simp only [Act.put, List.setIfInBounds_toArray, List.set_cons_zero, List.set_cons_succ]
  refine wpAnyH_ready (rs := [5]) (by kernel_rfl) (by simp) ?_
  refine AllReadyH.cons (o := ⟨some 8, .call { callee := .value (.func 52), args := #[.tmp 7], argTypes := #[9] }, 9, "l16_cache.go:97", #[⟨4, .data⟩, ⟨2, .chain⟩], none⟩) rfl (fun K hK => ?_) AllReadyH.nil
  go_simp
  go_at_call 52
  refine (HCS.out _).mono ?_
  rintro e w2 ⟨rfl, hl2⟩
  have hb2 := hb1.trans (hl2.mono hb1.size)
  try go_wp2_with fail
  refine hK.out _ _ (HKC.out _ hb2) (fun hHeld => ?_)
  clear hK K
  try simp only [Act.put, List.setIfInBounds_toArray, List.set_cons_zero, List.set_cons_succ]
  refine wpAnyH_ready (rs := [10]) (by kernel_rfl) (by simp) ?_
  refine AllReadyH.cons (o := ⟨some 13, .call { callee := .value (.func 53), args := #[.tmp 12], argTypes := #[22] }, 22, "l16_cache.go:99", #[⟨9, .data⟩, ⟨5, .chain⟩], none⟩) rfl (fun K hK => ?_) AllReadyH.nil
  go_simp
  go_at_call 53
  refine (HCT.out _ (HBW.out _ hb2)).mono ?_
  rintro e w3 ⟨rfl, hr3, hl3⟩
  have hb3 := hb2.trans (hl3.mono hb2.size)
  try go_wp2_with fail
  refine hK.out _ _ (HKC.out _ hb3) (fun hHeld => ?_)
  clear hK K
  try simp only [Act.put, List.setIfInBounds_toArray, List.set_cons_zero, List.set_cons_succ]
  refine wpAnyH_ready (rs := [13]) (by kernel_rfl) (by simp) ?_
  refine AllReadyH.cons (o := ⟨some 16, .call { callee := .value (.func 52), args := #[.tmp 15], argTypes := #[9] }, 9, "l16_cache.go:100", #[⟨12, .data⟩, ⟨10, .chain⟩], none⟩) rfl (fun K hK => ?_) AllReadyH.nil
  go_simp
  go_at_call 52
  refine (HCK.out _).mono ?_
  rintro e w4 ⟨rfl, hl4⟩
  have hb4 := hb3.trans (hl4.mono hb3.size)
  obtain ⟨⟨d0, d1, d2, d3, d4, d5⟩, f1⟩ := HKZ.out _ hb4
  have g1 := f1 0
  try go_wp2_with fail
  refine hK.out _ _ (HKC.out _ hb4) (fun hHeld => ?_)
  clear hK K
  try simp only [Act.put, List.setIfInBounds_toArray, List.set_cons_zero, List.set_cons_succ]
  refine wpAnyH_take (i := 16) (oi := ⟨some 19, .build 28 #[(0, .tmp 5), (1, .tmp 8), (2, .tmp 10), (3, .tmp 13), (4, .tmp 16), (5, .tmp 18)], 28, "l16_cache.go:95", #[⟨2, .data⟩, ⟨5, .data⟩, ⟨7, .data⟩, ⟨10, .data⟩, ⟨13, .data⟩, ⟨15, .data⟩], none⟩) (v := ?v13) rfl (by kernel_rfl) (by kernel_rfl) (by kernel_rfl) (fun _ _ _ h => h) (Or.inl ⟨by rfl, ?hy13⟩) (by assumption) ?r13
  case hy13 => (intro w hSw; (try dsimp only at hSw); go_simp; try with_reducible rfl)
  try simp only [Act.put, List.setIfInBounds_toArray, List.set_cons_zero, List.set_cons_succ]
  refine wpAnyH_ready (rs := [17]) (by kernel_rfl) (by simp) ?_
  refine AllReadyH.cons (o := ⟨none, .store 28 (.tmp 2) (.tmp 19), 0, "l16_cache.go:95", #[⟨16, .data⟩, ⟨13, .chain⟩, ⟨0, .phase⟩, ⟨1, .phase⟩, ⟨2, .phase⟩, ⟨3, .phase⟩, ⟨4, .phase⟩, ⟨5, .phase⟩, ⟨6, .phase⟩, ⟨7, .phase⟩, ⟨8, .phase⟩, ⟨9, .phase⟩, ⟨10, .phase⟩, ⟨11, .phase⟩, ⟨12, .phase⟩, ⟨13, .phase⟩, ⟨14, .phase⟩, ⟨15, .phase⟩, ⟨16, .phase⟩], none⟩) rfl (fun K hK => ?_) AllReadyH.nil
  go_simp
  skip
  try go_wp2_with fail
  refine hK.out _ _ (six_far (by omega) (HKC.out _ hb4)) (fun hHeld => ?_)
  clear hK K
  try simp only [Act.put, List.setIfInBounds_toArray, List.set_cons_zero, List.set_cons_succ]
  refine wpAnyH_done (by kernel_rfl) ?_ _
  have B4 := HBW.out _ hb4
  have s2 := hb2.size
  simp at s2
  have HR4 : Hid (RwT w4 w2.heap.size n l) := hr3.below hl4
  have HZ4 : Hid (SixC w4 (w.heap.size + 1) (.string ⟨#[]⟩) (.string ⟨#[]⟩) (.int .i64 0) (.slice none 0 0) (.string ⟨#[]⟩) (.int .u64 0)) := ⟨d0, d1, d2, d3, d4, d5⟩
  clear hr3 d0 d1 d2 d3 d4 d5
  go_wp2_with fail
  refine ret_cellM Tryd.results28 rfl (six _ _ _ _ _ _ HZ4.out) ⟨_, rfl, by omega, HR4.out.kept (six_blk (by omega)), six_bel B4 (by omega)⟩

end Go.Proofs.YtheponigjofknaaDoor.mt
