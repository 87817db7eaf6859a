import Derived.Test.YtheponigjofknaaDoorMJ
namespace Go.Proofs.YtheponigjofknaaDoor.mt
open Go.ChangeShapes Go.WideShapes Go.ChangeAt Go.RowKit Go.Deep
open bf
set_option linter.unusedVariables false
set_option linter.unusedSimpArgs false

theorem mt_join (path sum key : ByteArray) (z : Int) (sig : Nat) (l : List ByteArray) (n : Nat) : (⟨(headL path sum z l n).toArray⟩ : ByteArray) ++ ⟨#[107, 101, 121, 32]⟩ ++ key ++ ⟨#[10, 115, 105, 103, 32]⟩ ++ wd.wordA sig ++ ⟨#[10]⟩ = ⟨(mtL path sum key z sig l n).toArray⟩ := by
  apply ByteArray.ext
  apply Array.ext'
  simp [mtL, ln]

set_option maxRecDepth 100000 in
set_option maxHeartbeats 4000000 in
theorem smt_any (path sum key : ByteArray) (z : Int) (sig : Nat) (l : List ByteArray) (a : Option Addr) (n cap : Nat) (w : World) (hb : st.Ss w a n l) (hn : n ≤ 1048576) (hs : ∀ i, i < n → (st.atS l i).size ≤ 1048576) (hp : path.size ≤ 1048576) (hsu : sum.size ≤ 1048576) (hk : key.size ≤ 1048576) (hsg : sig < 18446744073709551616) :
    Calls Tryd.prog 7 #[.agg #[.string path, .string sum, .int .i64 z, .slice a n cap, .string key, .int .u64 (sig : Int)]] w fun e w' => e = .returned (.string (mtT path sum key z sig l n)) ∧ Below w.heap.size w w' := by
  obtain ⟨o, ho⟩ : ∃ o : Obj, o = .cells #[.string path, .string sum, .int .i64 z, .slice a n cap, .string key, .int .u64 (sig : Int)] 28 := ⟨_, rfl⟩
  have HBW : Hid (∀ W, Below (w.alloc o).heap.size (w.alloc o) W → Below w.heap.size w W) := fun W h => ((Below.refl _ _).alloc (Nat.le_refl _) o).trans (h.mono (by simp))
  have HKC : Hid (∀ W, Below (w.alloc o).heap.size (w.alloc o) W → (W.cell? ⟨w.heap.size, 0, none⟩ = some (.string path) ∧ W.cell? ⟨w.heap.size, 1, none⟩ = some (.string sum) ∧ W.cell? ⟨w.heap.size, 2, none⟩ = some (.int .i64 z)) ∧ W.cell? ⟨w.heap.size, 3, none⟩ = some (.slice a n cap) ∧ W.cell? ⟨w.heap.size, 4, none⟩ = some (.string key) ∧ W.cell? ⟨w.heap.size, 5, none⟩ = some (.int .u64 (sig : Int))) := by rw [ho]; exact six_cells
  have b0 : Below w.heap.size w (w.alloc o) := (Below.refl _ _).alloc (Nat.le_refl _) o
  have HSO : Hid (Calls Tryd.prog 19 #[.agg #[.string path, .string sum, .int .i64 z, .slice a n cap, .string key, .int .u64 (sig : Int)]] (w.alloc o) fun e w' => e = .returned (.bool (hokB path sum z l n && nm.nameB key)) ∧ Below (w.alloc o).heap.size (w.alloc o) w') := sok_any path sum key z sig l a n cap (w.alloc o) (hb.below b0) hn hs hp hsu hk
  have HCW : Hid (∀ W, Calls Tryd.prog 21 #[.int .u64 (sig : Int)] W fun e w' => e = .returned (.string (wd.wordA sig)) ∧ Below W.heap.size W w') := fun W => wd.spec_any sig hsg W
  have hws := wd.wordA_size sig
  rw [ho] at HSO
  cases hH : (hokB path sum z l n && nm.nameB key)
  · have HR : Hid (mtT path sum key z sig l n = ⟨#[]⟩) := by unfold mtT; rw [hH]; rfl
    rw [hH] at HSO
    clear hH HCW hws hb hn hs hp hsu hk hsg b0
    go_enter Tryd.func7, Tryd.ntmps7
    go_wp2_with (first | (go_at_call 19; refine HSO.out.mono ?_; rintro e w1 ⟨rfl, hl1⟩; refine Hid.out ?_) | go_in)
    refine Lib.hid ?_
    rw [← ho] at hl1
    have B1 := HBW.out _ hl1
    clear hl1
    go_wp2
    go_ret
    exact ⟨by rw [HR.out]; rfl, B1⟩
  · have HR : Hid (mtT path sum key z sig l n = ⟨(headL path sum z l n).toArray⟩ ++ ⟨#[107, 101, 121, 32]⟩ ++ key ++ ⟨#[10, 115, 105, 103, 32]⟩ ++ wd.wordA sig ++ ⟨#[10]⟩) := by show _ = _; unfold mtT; rw [hH, mt_join]; rfl
    rw [hH] at HSO
    have hH1 : hokB path sum z l n = true := by revert hH; cases hokB path sum z l n <;> simp
    obtain ⟨h3, hz0, hz1⟩ := hok_parts hH1
    have hhl := (head_len hH1 hp hsu hs).1
    have HSH : Hid (∀ W, Below w.heap.size w W → Calls Tryd.prog 20 #[.agg #[.string path, .string sum, .int .i64 z, .slice a n cap, .string key, .int .u64 (sig : Int)]] W fun e w' => e = .returned (.string ⟨(headL path sum z l n).toArray⟩) ∧ Below W.heap.size W w') := fun W h => shd_any path sum key z sig l a n cap W (hb.below h) h3 hs hp hsu hz0 hz1
    have hes : (⟨(headL path sum z l n).toArray⟩ : ByteArray).size = (headL path sum z l n).length := by simp [ByteArray.size]
    obtain ⟨H, hHd⟩ : ∃ H : ByteArray, H = ⟨(headL path sum z l n).toArray⟩ := ⟨_, rfl⟩
    rw [← hHd] at HR HSH hes
    obtain ⟨S, hS⟩ : ∃ S : ByteArray, S = wd.wordA sig := ⟨_, rfl⟩
    rw [← hS] at HR HCW hws
    have q1 : ¬ 9223372036854775807 < H.size + 4 := by omega
    have q2 : ¬ 9223372036854775807 < H.size + 4 + key.size := by omega
    have q3 : ¬ 9223372036854775807 < H.size + 4 + key.size + 5 := by omega
    have q4 : ¬ 9223372036854775807 < H.size + 4 + key.size + 5 + S.size := by omega
    have q5 : ¬ 9223372036854775807 < H.size + 4 + key.size + 5 + S.size + 1 := by omega
    have q4' : ¬ 9223372036854775807 < H.size + 4 + key.size + 5 + 13 := by omega
    have q5' : ¬ 9223372036854775807 < H.size + 4 + key.size + 5 + 13 + 1 := by omega
    clear hH hH1 hb hn hs hp hsu hsg b0 hHd hS hes hhl h3 hz0 hz1
    go_enter Tryd.func7, Tryd.ntmps7
    go_wp2_with (first | (go_at_call 19; refine HSO.out.mono ?_; rintro e w1 ⟨rfl, hl1⟩; refine Hid.out ?_) | go_in)
    refine Lib.hid ?_
    rw [← ho] at hl1
    have HC1 : Hid (Below (w.alloc o).heap.size (w.alloc o) w1.drew) := hl1.drew
    have HKB : Hid (∀ W, Below (w.alloc o).heap.size (w.alloc o) W → W.cell? ⟨w.heap.size, 0, none⟩ = some (.string path) ∧ W.cell? ⟨w.heap.size, 1, none⟩ = some (.string sum) ∧ W.cell? ⟨w.heap.size, 2, none⟩ = some (.int .i64 z) ∧ W.cell? ⟨w.heap.size, 3, none⟩ = some (.slice a n cap) ∧ W.cell? ⟨w.heap.size, 4, none⟩ = some (.string key) ∧ W.cell? ⟨w.heap.size, 5, none⟩ = some (.int .u64 (sig : Int))) := fun W h => by
      obtain ⟨⟨a0, a1, a2⟩, a3, a4, a5⟩ := HKC.out _ h
      exact ⟨a0, a1, a2, a3, a4, a5⟩
    obtain ⟨⟨k0, k1, k2⟩, k3, k4, k5⟩ := HKC.out _ hl1
    clear hl1 HSO
    go_wp2_with fail
    go_region_held3 (fun W => W.cell? ⟨w.heap.size, 0, none⟩ = some (.string path) ∧ W.cell? ⟨w.heap.size, 1, none⟩ = some (.string sum) ∧ W.cell? ⟨w.heap.size, 2, none⟩ = some (.int .i64 z) ∧ W.cell? ⟨w.heap.size, 3, none⟩ = some (.slice a n cap) ∧ W.cell? ⟨w.heap.size, 4, none⟩ = some (.string key) ∧ W.cell? ⟨w.heap.size, 5, none⟩ = some (.int .u64 (sig : Int)))
      (first | exact HKB.out _ HC1.out | exact HKB.out _ hb3 | exact HKB.out _ hb2 | go_keep)
      (first
        | (go_at_call 20; refine (HSH.out _ (HBW.out _ HC1.out)).mono ?_; rintro e w2 ⟨rfl, hl2⟩; have hb2 := HC1.out.trans (hl2.mono HC1.out.size))
        | (go_at_call 21; refine (HCW.out _).mono ?_; rintro e w3 ⟨rfl, hl3⟩; have hb3 := hb2.trans (hl3.mono hb2.size)))
    have B3 := HBW.out _ hb3
    go_wp2
    go_ret
    exact ⟨by rw [HR.out]; rfl, B3⟩

end Go.Proofs.YtheponigjofknaaDoor.mt
