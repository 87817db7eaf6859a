import Derived.Test.YtheponigjofknaaDoorMO
import Derived.Test.YtheponigjofknaaDoorRE
import Derived.Deep.CutRange
import Derived.Deep.CutBlock
namespace Go.Proofs.YtheponigjofknaaDoor.mt
open Go.ChangeShapes Go.WideShapes Go.ChangeAt Go.RowKit Go.Deep
set_option linter.unusedVariables false
set_option linter.unusedSimpArgs false

/-! ### FnExactSignManifest's walk -/

theorem SixC.kept {w w' : World} {b : Nat} {v0 v1 v2 v3 v4 v5 : Value} (h : SixC w b v0 v1 v2 v3 v4 v5) (hb : w'.heap[b]? = w.heap[b]?) : SixC w' b v0 v1 v2 v3 v4 v5 := by
  obtain ⟨h0, h1, h2, h3, h4, h5⟩ := h
  exact ⟨(World.cell?_of_block (a := ⟨b, 0, none⟩) hb).trans h0, (World.cell?_of_block (a := ⟨b, 1, none⟩) hb).trans h1, (World.cell?_of_block (a := ⟨b, 2, none⟩) hb).trans h2, (World.cell?_of_block (a := ⟨b, 3, none⟩) hb).trans h3, (World.cell?_of_block (a := ⟨b, 4, none⟩) hb).trans h4, (World.cell?_of_block (a := ⟨b, 5, none⟩) hb).trans h5⟩
theorem SixC.lt {w : World} {b : Nat} {v0 v1 v2 v3 v4 v5 : Value} (h : SixC w b v0 v1 v2 v3 v4 v5) : b < w.heap.size := World.block_lt_of_cell? _ _ h.1
theorem SixC.below {w w' : World} {b : Nat} {v0 v1 v2 v3 v4 v5 : Value} (h : SixC w b v0 v1 v2 v3 v4 v5) (hb : Below w.heap.size w w') : SixC w' b v0 v1 v2 v3 v4 v5 := h.kept (hb.block b h.lt)

/-- A box with a manifest, made since 'ws'. -/
def Bx (ws wx : World) (p : Value) (path sum K : ByteArray) (z : Int) (S : Nat) (l : List ByteArray) (n : Nat) : Prop :=
  ∃ bw gw cw, p = .pointer (some ⟨bw, 0, none⟩) ∧ SixC wx bw (.string path) (.string sum) (.int .i64 z) (.slice (some ⟨gw, 0, none⟩) n cw) (.string K) (.int .u64 (S : Int)) ∧ RwT wx gw n l ∧ bw ≠ gw ∧ ws.heap.size ≤ bw ∧ ws.heap.size ≤ gw ∧ Below ws.heap.size ws wx

def zM : Obj := .cells #[.string ⟨#[]⟩, .string ⟨#[]⟩, .int .i64 0, .slice none 0 0, .string ⟨#[]⟩, .int .u64 0] 28

theorem zero_at (w : World) : ∀ W, Below (w.alloc zM).heap.size (w.alloc zM) W → SixC W w.heap.size (.string ⟨#[]⟩) (.string ⟨#[]⟩) (.int .i64 0) (.slice none 0 0) (.string ⟨#[]⟩) (.int .u64 0) ∧ ∀ i, W.frozen? ⟨w.heap.size, i, none⟩ = false := fun W h => by
  obtain ⟨k1, k2⟩ := bcell h
  unfold zM at k1 k2
  refine ⟨⟨(k1 _ _ (by simp)).trans (by simp [go_sem]), (k1 _ _ (by simp)).trans (by simp [go_sem]), (k1 _ _ (by simp)).trans (by simp [go_sem]), (k1 _ _ (by simp)).trans (by simp [go_sem]), (k1 _ _ (by simp)).trans (by simp [go_sem]), (k1 _ _ (by simp)).trans (by simp [go_sem])⟩, fun i => (k2 _ _ (by simp)).trans (by simp [go_sem])⟩

theorem bx_early {ws wp yl yk : World} {path sum K : ByteArray} {z : Int} {S n gw cw : Nat} {l : List ByteArray} (hD : Below ws.heap.size ws wp) (hE' : (wp.alloc zM).heap.size ≤ yl.heap.size) (hgw : yl.heap.size ≤ gw) (hr : RwT yk gw n l) (hDk : Below ws.heap.size ws yk) (hE : Below (wp.alloc zM).heap.size (wp.alloc zM) yk) :
    Bx ws ((((((yk.setCell ⟨wp.heap.size, 0, none⟩ (.string path)).setCell ⟨wp.heap.size, 1, none⟩ (.string sum)).setCell ⟨wp.heap.size, 2, none⟩ (.int .i64 z)).setCell ⟨wp.heap.size, 3, none⟩ (.slice (some ⟨gw, 0, none⟩) n cw)).setCell ⟨wp.heap.size, 4, none⟩ (.string K)).setCell ⟨wp.heap.size, 5, none⟩ (.int .u64 (S : Int))) (.pointer (some ⟨wp.heap.size, 0, none⟩)) path sum K z S l n := by
  have hs := hD.size
  rw [World.size_alloc] at hE'
  have hne : wp.heap.size ≠ gw := by omega
  exact ⟨_, gw, cw, rfl, six _ _ _ _ _ _ (zero_at wp _ hE).1, hr.kept (six_blk (fun e => hne e.symm)), hne, hs, by omega, six_bel hDk hs⟩

theorem bx_late {ws yl yk : World} {path sum K : ByteArray} {z : Int} {S n gw cw : Nat} {l : List ByteArray} (hD : Below ws.heap.size ws yl) (hgw : yl.heap.size ≤ gw) (hr : RwT yk gw n l) (hDk : Below ws.heap.size ws yk) :
    Bx ws (yk.alloc (.cells #[.string path, .string sum, .int .i64 z, .slice (some ⟨gw, 0, none⟩) n cw, .string K, .int .u64 (S : Int)] 28)) (.pointer (some ⟨yk.heap.size, 0, none⟩)) path sum K z S l n := by
  have hs := hD.size
  have hlt := hr.lt
  exact ⟨_, gw, cw, rfl, six_all _ (Below.refl _ _), hr.below ((Below.refl _ _).alloc (Nat.le_refl _) _), by omega, hDk.size, by omega, hDk.alloc hDk.size _⟩

theorem grown_below {w w' w'' : World} {b : Nat} (h : w.grownBy w' (some b)) (hb : Below w'.heap.size w' w'') : w.grownBy w'' (some b) :=
  ⟨hb.os.trans h.os, hb.tape.trans h.tape, hb.output.trans h.output, Nat.le_trans h.size hb.size, fun k hk hne => (hb.block k (Nat.lt_of_lt_of_le hk h.size)).trans (h.block k hk hne)⟩
theorem grown_after {w w' w'' : World} {b : Nat} (hb : Below w.heap.size w w') (h : w'.grownBy w'' (some b)) : w.grownBy w'' (some b) :=
  ⟨h.os.trans hb.os, h.tape.trans hb.tape, h.output.trans hb.output, Nat.le_trans hb.size h.size, fun k hk hne => (h.block k (Nat.lt_of_lt_of_le hk hb.size) hne).trans (hb.block k hk)⟩
theorem grown_set {w w' : World} {b o : Nat} {v : Value} (h : w.grownBy w' (some b)) : w.grownBy (w'.setCell ⟨b, o, none⟩ v) (some b) :=
  ⟨h.os, h.tape, h.output, by rw [World.size_setCell]; exact h.size, fun k hk hne => (blk_oth (fun e => hne (by rw [e]))).trans (h.block k hk hne)⟩
theorem grown_refl (w : World) (r : Option Nat) : w.grownBy w r := ⟨rfl, rfl, rfl, Nat.le_refl _, fun _ _ _ => rfl⟩
theorem grow_below {B b : Nat} {w w1 w2 : World} (h : Below B w w1) (hg : w1.grownBy w2 (some b)) (hB : B ≤ w1.heap.size) (hb : B ≤ b) : Below B w w2 := h.grown hg hB (fun k hk => by cases hk; exact hb)
theorem SixC.grown {w w' : World} {b g : Nat} {v0 v1 v2 v3 v4 v5 : Value} (h : SixC w b v0 v1 v2 v3 v4 v5) (hg : w.grownBy w' (some g)) (hne : b ≠ g) : SixC w' b v0 v1 v2 v3 v4 v5 := h.kept (hg.block b h.lt (fun e => hne (Option.some.inj e)))
theorem RwT.grown {w w' : World} {b g n : Nat} {l : List ByteArray} (h : RwT w b n l) (hg : w.grownBy w' (some g)) (hne : b ≠ g) : RwT w' b n l := h.kept (hg.block b h.lt (fun e => hne (Option.some.inj e)))
theorem RwT.mk {w : World} {g n : Nat} {l : List ByteArray} (h : RwT w g n l) : sr.MkR w g 0 n 1 0 := by
  obtain ⟨⟨cs, hc, hs⟩, _⟩ := h
  exact ⟨⟨cs, hc, by omega⟩, fun j hj => by omega⟩

set_option maxRecDepth 100000 in
set_option maxHeartbeats 1000000 in
theorem markX_any (bb off n c k0 : Nat) (w : World) (hM : sr.MkR w bb off n k0 0) (h0 : 0 < k0) (hn : k0 + n ≤ 2000000) :
    Calls Tryd.prog 30 #[.slice (some ⟨bb, off, none⟩) n c, .int .i64 (k0 : Int)] w fun e w' => e = .returned (.int .i64 ((k0 + n : Nat) : Int)) ∧ sr.MkR w' bb off n k0 n ∧ w.grownBy w' (some bb) := by
  go_enter Tryd.func30, Tryd.ntmps30
  go_wp2
  go_loopw [1, 5] (fun a x wr => ∃ (i : Nat), i ≤ n ∧ x = .int .i64 (i : Int) ∧ a = .int .i64 ((k0 + i : Nat) : Int) ∧ sr.MkR wr bb off n k0 i ∧ w.grownBy wr (some bb)) (fun _ x _ => n - (intOf x).toNat)
  case atStart => exact ⟨0, Nat.zero_le _, rfl, rfl, hM, grown_refl _ _⟩
  case round =>
    clear hM
    obtain ⟨i, hi, rfl, rfl, hM, hbel⟩ := hrel
    by_cases h : i < n
    · have h' : (i : Int) < (n : Int) := by omega
      have HMT : Hid (Calls Tryd.prog 56 #[.int .i64 ((k0 + i : Nat) : Int)] wr fun e w' => e = .returned (.string (sr.mark (k0 + i))) ∧ Below wr.heap.size wr w') := sr.mark_any (k0 + i) (by omega) (by omega) wr
      obtain ⟨s, hs⟩ : ∃ s, sr.mark (k0 + i) = s := ⟨_, rfl⟩
      obtain ⟨K, hK⟩ : ∃ K : Nat, k0 + i = K := ⟨_, rfl⟩
      rw [hs, hK] at HMT
      have HKK : Hid (k0 + i = K) := hK
      have HSS : Hid (sr.mark (k0 + i) = s) := hs
      have HMM : Hid (sr.MkR wr bb off n k0 i) := hM
      have HBB : Hid (w.grownBy wr (some bb)) := hbel
      rw [hK]
      have hKb : K ≤ 2000000 := by omega
      clear hs hK hM hbel
      go_wp2_with (go_at_call 56; refine HMT.out.mono ?_; rintro e w1 ⟨rfl, hb1⟩; obtain ⟨x, hx, hfx⟩ := (HMM.out.below hb1).cell i h)
      go_roundw
      case rel =>
        refine ⟨i + 1, by omega, by go_num, by rw [← Nat.add_assoc, HKK.out]; go_num, ?_, ?_⟩
        · have := (HMM.out.below hb1).step h
          rw [HSS.out] at this
          exact this
        · exact grown_set (grown_below HBB.out hb1)
      case measure => simp [intOf]; omega
    · have h' : ¬ (i : Int) < (n : Int) := by omega
      obtain rfl : i = n := by omega
      go_wp2
      go_ret
      exact ⟨rfl, hM, hbel⟩

set_option maxRecDepth 100000 in
theorem markM_any (path sum K : ByteArray) (z : Int) (S g n c : Nat) (M : Int) (hM : M = ((1 + n : Nat) : Int)) (l : List ByteArray) (w : World) (hr : RwT w g n l) (hn : n ≤ 1048576) :
    Calls Tryd.prog 14 #[.agg #[.string path, .string sum, .int .i64 z, .slice (some ⟨g, 0, none⟩) n c, .string K, .int .u64 (S : Int)], .int .i64 1] w fun e w' => e = .returned (.int .i64 M) ∧ sr.MkR w' g 0 n 1 n ∧ w.grownBy w' (some g) := by
  subst hM
  have HMK : Hid (∀ o, Calls Tryd.prog 30 #[.slice (some ⟨g, 0, none⟩) n c, .int .i64 1] (w.alloc o) fun e w' => e = .returned (.int .i64 ((1 + n : Nat) : Int)) ∧ sr.MkR w' g 0 n 1 n ∧ (w.alloc o).grownBy w' (some g)) := fun o => markX_any g 0 n c 1 _ (hr.below ((Below.refl _ _).alloc (Nat.le_refl _) _)).mk (by omega) (by omega)
  have HGA : Hid (∀ o w', (w.alloc o).grownBy w' (some g) → w.grownBy w' (some g)) := fun o w' h => grown_after ((Below.refl _ _).alloc (Nat.le_refl _) _) h
  obtain ⟨M, hM⟩ : ∃ M : Int, ((1 + n : Nat) : Int) = M := ⟨_, rfl⟩
  rw [hM] at HMK ⊢
  clear hr hn hM
  go_enter Tryd.func14, Tryd.ntmps14
  go_wp2_with (first | (go_at_call 30; refine (HMK.out _).mono ?_; rintro e w1 ⟨rfl, hm1, hg1⟩; have HM1 : Hid (sr.MkR w1 g 0 n 1 n) := hm1; have HG1 : Hid (w.grownBy w1 (some g)) := HGA.out _ _ hg1; clear hm1 hg1) | go_in)
  go_ret
  exact ⟨rfl, HM1.out, HG1.out⟩

set_option maxRecDepth 100000 in
theorem heldM_any (path sum K : ByteArray) (z : Int) (S g n c : Nat) (M : Int) (hM : M = ((1 + n : Nat) : Int)) (w : World) (hr : sr.MkR w g 0 n 1 n) (hn : n ≤ 1048576) :
    Calls Tryd.prog 15 #[.agg #[.string path, .string sum, .int .i64 z, .slice (some ⟨g, 0, none⟩) n c, .string K, .int .u64 (S : Int)], .int .i64 1] w fun e w' => e = .returned (.int .i64 M) ∧ Below w.heap.size w w' := by
  have hM0 : ¬ M < 0 := by omega
  have HMK : Hid (∀ o, Calls Tryd.prog 31 #[.slice (some ⟨g, 0, none⟩) n c, .int .i64 1] (w.alloc o) fun e w' => e = .returned (.int .i64 M) ∧ Below (w.alloc o).heap.size (w.alloc o) w') := fun o => by
    rw [hM]
    exact sr.heldS_any g 0 n c 1 _ (hr.below ((Below.refl _ _).alloc (Nat.le_refl _) _)) (by omega) (by omega)
  have HGA : Hid (∀ o w', Below (w.alloc o).heap.size (w.alloc o) w' → Below w.heap.size w w') := fun o w' h => ((Below.refl _ _).alloc (Nat.le_refl _) o).trans (h.mono (by simp))
  clear hr hn hM
  go_enter Tryd.func15, Tryd.ntmps15
  go_wp2_with (first | (go_at_call 31; refine (HMK.out _).mono ?_; rintro e w1 ⟨rfl, hl1⟩; have HG1 : Hid (Below w.heap.size w w1) := HGA.out _ _ hl1; clear hl1) | go_in)
  go_ret
  exact ⟨rfl, HG1.out⟩

end Go.Proofs.YtheponigjofknaaDoor.mt
