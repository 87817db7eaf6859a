import Derived.Test.YtheponigjofknaaDoorMG
import Derived.Test.YtheponigjofknaaDoorSW
import Derived.Laws.IdiomStrings
namespace Go.Proofs.YtheponigjofknaaDoor.mt
open Go.ChangeShapes Go.WideShapes Go.ChangeAt Go.RowKit Go.Deep
open bf
set_option linter.unusedVariables false
set_option linter.unusedSimpArgs false

/-- A manifest's text. -/
def mtL (path sum key : ByteArray) (z : Int) (sig : Nat) (l : List ByteArray) (n : Nat) : List UInt8 := ln (ln (headL path sum z l n) [107, 101, 121] key.data.toList) [115, 105, 103] (wd.wordA sig).data.toList
def mtT (path sum key : ByteArray) (z : Int) (sig : Nat) (l : List ByteArray) (n : Nat) : ByteArray := if hokB path sum z l n && nm.nameB key then ⟨(mtL path sum key z sig l n).toArray⟩ else ⟨#[]⟩

theorem refL_ge (l : List ByteArray) (L : List UInt8) : ∀ k, L.length ≤ (refL l L k).length
  | 0 => Nat.le_refl _
  | k + 1 => by have := refL_ge l L k; simp only [refL, ln_len]; omega

theorem hok_parts {path sum : ByteArray} {z : Int} {l : List ByteArray} {n : Nat} (h : hokB path sum z l n = true) : n ≤ 300 ∧ 0 ≤ z ∧ z ≤ 1000000 := by
  simp only [hokB, rfB, Bool.and_eq_true, decide_eq_true_eq] at h
  exact ⟨h.2.2.2.1, szB_iff h.2.2.1⟩

theorem head_len {path sum : ByteArray} {z : Int} {l : List ByteArray} {n : Nat} (h : hokB path sum z l n = true) (hp : path.size ≤ 1048576) (hsu : sum.size ≤ 1048576) (hs : ∀ i, i < n → (st.atS l i).size ≤ 1048576) : (headL path sum z l n).length ≤ 320000000 ∧ 0 < (headL path sum z l n).length := by
  obtain ⟨h3, h0, h1⟩ := hok_parts h
  have il : (Lib.itoa z).length ≤ 21 := Lib.itoa_length_le z (by omega) (by omega)
  have pl : path.data.toList.length = path.size := by simp
  have ul : sum.data.toList.length = sum.size := by simp
  unfold headL
  have a := refL_len l (ln (ln (ln [] [112, 97, 116, 104] path.data.toList) [115, 117, 109] sum.data.toList) [115, 105, 122, 101] (Lib.itoa z)) n hs n (Nat.le_refl _)
  have b := refL_ge l (ln (ln (ln [] [112, 97, 116, 104] path.data.toList) [115, 117, 109] sum.data.toList) [115, 105, 122, 101] (Lib.itoa z)) n
  have e : (ln (ln (ln [] [112, 97, 116, 104] path.data.toList) [115, 117, 109] sum.data.toList) [115, 105, 122, 101] (Lib.itoa z)).length = 17 + path.size + sum.size + (Lib.itoa z).length := by
    rw [ln_len, ln_len, ln_len, pl, ul]
    simp only [List.length_nil, List.length_cons]
    omega
  rw [e] at a b
  constructor <;> omega

theorem conv_back {base : Nat} {w : World} {g c : Nat} {l : List UInt8} (h : Bf base w g c l) : (convert 46 9 (.slice (some ⟨g, 0, none⟩) l.length c)).run Tryd.prog w = .ok (.string ⟨l.toArray⟩) w :=
  run_convert_bytes_back (P := Tryd.prog) w 46 9 5 ⟨g, 0, none⟩ c l Tryd.underlying46 Tryd.underlying5 Tryd.underlying9 (fun j hj => by
    have e : (⟨g, 0, none⟩ : Addr).add j = ⟨g, j, none⟩ := by
      by_cases h0 : j = 0
      · subst h0; simp [Addr.add]
      · simp [Addr.add, h0]
    rw [e]; exact h.cells j hj)

set_option maxHeartbeats 4000000 in
theorem imt_any (path sum key : ByteArray) (z : Int) (sig : Nat) (l : List ByteArray) (a : Option Addr) (n cap : Nat) (w : World) (hb : st.Ss w a n l) (hn : n ≤ 1048576) (hs : ∀ i, i < n → (st.atS l i).size ≤ 1048576) (hp : path.size ≤ 1048576) (hsu : sum.size ≤ 1048576) (hk : key.size ≤ 1048576) (hsg : sig < 18446744073709551616) (hT : wd.TabB w) (hP : PwT w) :
    Calls Tryd.prog 9 #[.agg #[.string path, .string sum, .int .i64 z, .slice a n cap, .string key, .int .u64 (sig : Int)]] w fun e w' => e = .returned (.string (mtT path sum key z sig l n)) ∧ Below w.heap.size w w' := by
  obtain ⟨o, ho⟩ : ∃ o : Obj, o = .cells #[.string path, .string sum, .int .i64 z, .slice a n cap, .string key, .int .u64 (sig : Int)] 28 := ⟨_, rfl⟩
  have HBW : Hid (∀ W, Below (w.alloc o).heap.size (w.alloc o) W → Below w.heap.size w W) := fun W h => ((Below.refl _ _).alloc (Nat.le_refl _) o).trans (h.mono (by simp))
  have HKC : Hid (∀ W, Below (w.alloc o).heap.size (w.alloc o) W → (W.cell? ⟨w.heap.size, 0, none⟩ = some (.string path) ∧ W.cell? ⟨w.heap.size, 1, none⟩ = some (.string sum) ∧ W.cell? ⟨w.heap.size, 2, none⟩ = some (.int .i64 z)) ∧ W.cell? ⟨w.heap.size, 3, none⟩ = some (.slice a n cap) ∧ W.cell? ⟨w.heap.size, 4, none⟩ = some (.string key) ∧ W.cell? ⟨w.heap.size, 5, none⟩ = some (.int .u64 (sig : Int))) := by rw [ho]; exact six_cells
  have b0 : Below w.heap.size w (w.alloc o) := (Below.refl _ _).alloc (Nat.le_refl _) o
  have HSG := isg_any path sum key z sig l a n cap (w.alloc o) (hb.below b0) hn hs hp hsu hk (hT.below b0) (hP.below b0)
  have HCW : Hid (∀ W, Below w.heap.size w W → Calls Tryd.prog 25 #[.int .u64 (sig : Int)] W fun e w' => e = .returned (.string (wd.wordA sig)) ∧ Below W.heap.size W w') := fun W h => wd.impl_any sig hsg W (sg.tab_block (hT.below h))
  have hws := wd.wordA_size sig
  obtain ⟨S, hS⟩ : ∃ S, wd.wordA sig = S := ⟨_, rfl⟩
  cases hH : (hokB path sum z l n && nm.nameB key)
  · have hR : mtT path sum key z sig l n = ⟨#[]⟩ := by unfold mtT; rw [hH]; rfl
    have hG : sgL path sum key z l n = [] := by unfold sgL; rw [hH]; rfl
    rw [hG] at HSG
    have HR : Hid (mtT path sum key z sig l n = ⟨#[]⟩) := hR
    have HS' : Hid (Calls Tryd.prog 23 #[.agg #[.string path, .string sum, .int .i64 z, .slice a n cap, .string key, .int .u64 (sig : Int)]] (w.alloc o) fun e w' => LineR (w.alloc o).heap.size (w.alloc o) w' e []) := HSG
    clear HSG hR hG hH HCW hws hb hn hs hp hsu hk hsg hT hP hS b0
    rw [ho] at HS'
    go_enter Tryd.func9, Tryd.ntmps9
    go_wp2_with (first | (go_at_call 23; refine HS'.out.mono ?_; rintro e w1 ⟨g1, cc1, z1, rfl, rfl, hbf1, hl1⟩; refine Hid.out ?_) | go_in)
    refine Lib.hid ?_
    rw [← ho] at hl1
    have B1 := HBW.out _ hl1
    clear hbf1 hl1
    go_wp2
    go_ret
    exact ⟨by rw [HR.out]; rfl, B1⟩
  · have hH2 : hokB path sum z l n = true := by simp only [Bool.and_eq_true] at hH; exact hH.1
    obtain ⟨hlen, hpos⟩ := head_len hH2 hp hsu hs
    have hG : sgL path sum key z l n = headL path sum z l n := by unfold sgL; rw [hH]; rfl
    rw [hG] at HSG
    obtain ⟨M, hM⟩ : ∃ M, headL path sum z l n = M := ⟨_, rfl⟩
    rw [hM] at HSG hlen hpos
    have hne : ¬ M = [] := by intro h; rw [h] at hpos; exact absurd hpos (by simp)
    have hne2 : ((M.length : Int) == 0) = false := by simp [hne]
    have HS' : Hid (Calls Tryd.prog 23 #[.agg #[.string path, .string sum, .int .i64 z, .slice a n cap, .string key, .int .u64 (sig : Int)]] (w.alloc o) fun e w' => LineR (w.alloc o).heap.size (w.alloc o) w' e M) := HSG
    clear HSG
    rw [ho] at HS'
    obtain ⟨M1, hM1⟩ : ∃ M1, M1 = ln M [107, 101, 121] key.data.toList := ⟨_, rfl⟩
    obtain ⟨M2, hM2⟩ : ∃ M2, M2 = ln M1 [115, 105, 103] S.data.toList := ⟨_, rfl⟩
    have HR : Hid (mtT path sum key z sig l n = ⟨M2.toArray⟩) := by unfold mtT mtL; rw [hH, hM2, hM1, hM, hS]; rfl
    rw [hS] at HCW hws
    have kl : key.data.toList.length = key.size := by simp
    have l1 : M1.length ≤ 322000000 := by
      rw [hM1, ln_len, kl]
      simp only [List.length_cons, List.length_nil]
      omega
    have HL1 : Hid (∀ W g c, (w.alloc o).heap.size ≤ W.heap.size → Bf (w.alloc o).heap.size W g c M → Calls Tryd.prog 24 #[.slice (some ⟨g, 0, none⟩) M.length c, .slice (some ⟨W.heap.size, 0, none⟩) 2 2] (W.alloc (.cells #[.string ⟨#[107, 101, 121]⟩, .string key] 9)) fun e w' => LineR (w.alloc o).heap.size W w' e M1) := fun W g c h hbf => by
      have := line_new (w.alloc o).heap.size _ M ⟨#[107, 101, 121]⟩ key W (.inr ⟨g, c, _, rfl, rfl, hbf⟩) (by decide) (by have e : (⟨#[107, 101, 121]⟩ : ByteArray).size = 3 := rfl; omega) h
      rw [hM1]; exact this
    have HL2 : Hid (∀ W g c, (w.alloc o).heap.size ≤ W.heap.size → Bf (w.alloc o).heap.size W g c M1 → Calls Tryd.prog 24 #[.slice (some ⟨g, 0, none⟩) M1.length c, .slice (some ⟨W.heap.size, 0, none⟩) 2 2] (W.alloc (.cells #[.string ⟨#[115, 105, 103]⟩, .string S] 9)) fun e w' => LineR (w.alloc o).heap.size W w' e M2) := fun W g c h hbf => by
      have := line_new (w.alloc o).heap.size _ M1 ⟨#[115, 105, 103]⟩ S W (.inr ⟨g, c, _, rfl, rfl, hbf⟩) (by decide) (by have e : (⟨#[115, 105, 103]⟩ : ByteArray).size = 3 := rfl; omega) h
      rw [hM2]; exact this
    clear hG hH hH2 hM hws hb hn hs hp hsu hk hsg hT hP hS b0 hlen hpos l1 kl hM1 hM2
    go_enter Tryd.func9, Tryd.ntmps9
    go_wp2_with (first | (go_at_call 23; refine HS'.out.mono ?_; rintro e w1 ⟨g1, cc1, z1, rfl, rfl, hbf1, hl1⟩; refine Hid.out ?_) | go_in)
    refine Lib.hid ?_
    rw [← ho] at hl1 hbf1
    have HB1 : Hid (Bf (w.alloc o).heap.size w1 g1 cc1 M) := hbf1
    have C1 := hl1
    clear hbf1 hl1 HS'
    obtain ⟨⟨k0, k1, k2⟩, k3, k4, k5⟩ := HKC.out _ C1
    go_wp2_with (first | (go_at_call 24; refine (HL1.out _ _ _ C1.size HB1.out).mono ?_; rintro e w3 ⟨g3, cc3, z3, rfl, rfl, hbf3, hl3⟩; refine Hid.out ?_) | go_in)
    refine Lib.hid ?_
    have C3 := C1.trans hl3
    have HB3 : Hid (Bf (w.alloc o).heap.size w3 g3 cc3 M1) := hbf3
    clear hbf3 hl3 HB1 C1 k0 k1 k2 k3 k4 k5 HL1
    have B3 := HBW.out _ C3
    obtain ⟨⟨k0, k1, k2⟩, k3, k4, k5⟩ := HKC.out _ C3
    go_wp2_with (first | (go_at_call 25; refine (HCW.out _ B3).mono ?_; rintro e w4 ⟨rfl, hl4⟩; refine Hid.out ?_) | go_in)
    refine Lib.hid ?_
    have C4 := C3.trans (hl4.mono C3.size)
    have HB4 : Hid (Bf (w.alloc o).heap.size w4 g3 cc3 M1) := HB3.out.below hl4
    clear hl4 HB3 C3 B3 k0 k1 k2 k3 k4 k5
    go_wp2_with (first | (go_at_call 24; refine (HL2.out _ _ _ C4.size HB4.out).mono ?_; rintro e w5 ⟨g5, cc5, z5, rfl, rfl, hbf5, hl5⟩; refine Hid.out ?_) | go_in)
    refine Lib.hid ?_
    have C5 := C4.trans hl5
    have B5 := HBW.out _ C5
    have hcv := conv_back hbf5
    clear hbf5 hl5 HB4 C4 HL2
    go_wp2
    go_ret
    exact ⟨by rw [HR.out]; rfl, B5⟩

end Go.Proofs.YtheponigjofknaaDoor.mt
