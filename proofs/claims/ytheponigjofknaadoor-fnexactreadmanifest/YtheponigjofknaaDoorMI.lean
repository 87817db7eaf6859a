import Derived.Test.YtheponigjofknaaDoorMH
import Derived.Lib.ItoaLen
namespace Go.Proofs.YtheponigjofknaaDoor.mt
open Go.ChangeShapes Go.WideShapes Go.ChangeAt Go.RowKit Go.Deep
open bf
set_option linter.unusedVariables false
set_option linter.unusedSimpArgs false

/-! ### The specification's numbers -/

def dgt (k : Nat) : UInt8 := UInt8.ofNat (48 + k % 10)
theorem dgt_nat (k : Nat) : ((dgt k).toNat : Int) = 48 + ((k % 10 : Nat) : Int) := by
  have : (48 + k % 10) % 256 = 48 + k % 10 := Nat.mod_eq_of_lt (by omega)
  simp [dgt, UInt8.toNat_ofNat', this]

theorem dgt_conv (k : Nat) (wr : World) (z : Int) (hz : z = 48 + ((k % 10 : Nat) : Int)) : (convert 46 9 (.slice (some ⟨wr.heap.size, 0, none⟩) 1 1)).run Tryd.prog (wr.alloc (.cells #[.int .u8 z] 5)) = .ok (.string ⟨[dgt k].toArray⟩) (wr.alloc (.cells #[.int .u8 z] 5)) := by
  subst hz
  refine own_string (base := wr.heap.size) (n := 1) Tryd.underlying46 Tryd.underlying5 Tryd.underlying9 ?_
  rw [byteCells_one, dgt_nat]
  exact ⟨rfl, .inr ⟨wr.heap.size, 1, #[.int .u8 (48 + ((k % 10 : Nat) : Int))], rfl, Nat.le_refl _, heap_alloc_new wr _, by decide, by decide, rfl, rfl⟩⟩

theorem dec_step {k : Nat} (h : 9 < k) : Lib.decDigits k = Lib.decDigits (k / 10) ++ [dgt k] := by
  rw [Lib.decDigits, dif_neg (by omega)]; rfl
theorem dec_last {k : Nat} (h : ¬ 9 < k) : Lib.decDigits k = [dgt k] := by
  rw [Lib.decDigits, dif_pos (by omega), dgt, Nat.mod_eq_of_lt (by omega)]

set_option maxHeartbeats 1000000 in
theorem int_is (k0 : Nat) (h1 : k0 ≤ 9223372036854775807) (w : World) :
    Calls Tryd.prog 43 #[.int .i64 (k0 : Int)] w fun e w' => e = .returned (.string ⟨(Lib.itoa (k0 : Int)).toArray⟩) ∧ Below w.heap.size w w' := by
  have hN : Lib.itoa (k0 : Int) = Lib.decDigits k0 := by simp [Lib.itoa]
  rw [hN]
  obtain ⟨G, hG⟩ : ∃ G, Lib.decDigits k0 = G := ⟨_, rfl⟩
  rw [hG]
  have hgl : G.length ≤ 21 := by
    have h := Lib.itoa_length_le (k0 : Int) (by omega) (by omega)
    rw [← hG, ← hN]
    exact h
  clear hN
  go_enter Tryd.func43, Tryd.ntmps43
  go_wp2
  go_loopw [0, 3] (fun a b wr => ∃ (k : Nat) (l : List UInt8), a = .int .i64 (k : Int) ∧ b = .string ⟨l.toArray⟩ ∧ k ≤ 9223372036854775807 ∧ Lib.decDigits k ++ l = G ∧ Below w.heap.size w wr) (fun a _ _ => (intOf a).toNat)
  case atStart => exact ⟨k0, [], rfl, rfl, h1, by rw [List.append_nil]; exact hG, Below.refl _ _⟩
  case round =>
    obtain ⟨k, l, rfl, rfl, hk, hd, hbel⟩ := hrel
    have HD : Hid (Lib.decDigits k ++ l = G) := hd
    have hll : l.length ≤ 21 := by rw [← hd, List.length_append] at hgl; omega
    clear hd hG hgl
    have hsz : (⟨l.toArray⟩ : ByteArray).size = l.length := by simp [ByteArray.size]
    have hcat : ¬ 9223372036854775807 < 1 + (⟨l.toArray⟩ : ByteArray).size := by omega
    obtain ⟨s, hs⟩ : ∃ s : ByteArray, (⟨l.toArray⟩ : ByteArray) = s := ⟨_, rfl⟩
    rw [hs] at hcat ⊢
    have HS : Hid ((⟨l.toArray⟩ : ByteArray) = s) := hs
    clear hs hsz
    have HC : Hid ((⟨#[dgt k]⟩ : ByteArray) ++ s = ⟨(dgt k :: l).toArray⟩) := by
      show _ = _
      rw [← HS.out]
      apply ByteArray.ext
      simp
    by_cases hlt : 9 < k
    · have hlti : 9 < (k : Int) := by omega
      have hconv := dgt_conv k wr (48 + (k : Int) % 10) (by omega)
      go_wp2
      go_roundw
      case rel => exact ⟨k / 10, dgt k :: l, by go_num, by rw [← HC.out], by omega, by rw [← HD.out, dec_step hlt]; simp, hbel.alloc hbel.size _⟩
      case measure => simp [intOf]; omega
    · have hlti : ¬ 9 < (k : Int) := by omega
      have hconv := dgt_conv k wr (48 + (k : Int)) (by omega)
      go_wp2
      go_ret
      refine ⟨?_, hbel.alloc hbel.size _⟩
      rw [← HD.out, dec_last hlt]
      exact ret_str HC.out


/-! ### What the specification takes for a manifest -/

theorem hok_alt (path sum : ByteArray) (z : Int) (l : List ByteArray) (n : Nat) : hokB path sum z l n = (wd.aokB path && (wd.rwB sum && (decide (0 ≤ z) && (decide (z ≤ 1000000) && (decide (n ≤ 300) && (adA l n && (asA l n && decide (n ≤ 2000)))))))) := by
  unfold hokB szB rfB
  by_cases h : n ≤ 300
  · have h2 : n ≤ 2000 := by omega
    simp only [h, h2, decide_true, Bool.and_true, Bool.true_and]
    cases wd.aokB path <;> cases wd.rwB sum <;> cases adA l n <;> cases asA l n <;> simp
  · simp only [h, decide_false, Bool.and_false, Bool.false_and]

set_option maxHeartbeats 4000000 in
theorem sok_any (path sum key : ByteArray) (z : Int) (sig : Nat) (l : List ByteArray) (a : Option Addr) (n cap : Nat) (w : World) (hb : st.Ss w a n l) (hn : n ≤ 1048576) (hs : ∀ i, i < n → (st.atS l i).size ≤ 1048576) (hp : path.size ≤ 1048576) (hsu : sum.size ≤ 1048576) (hk : key.size ≤ 1048576) :
    Calls Tryd.prog 19 #[.agg #[.string path, .string sum, .int .i64 z, .slice a n cap, .string key, .int .u64 (sig : Int)]] w fun e w' => e = .returned (.bool (hokB path sum z l n && nm.nameB key)) ∧ Below w.heap.size w w' := by
  rw [hok_alt]
  have HCR : Hid (∀ W, Calls Tryd.prog 35 #[.string sum] W fun e w' => e = .returned (.tuple #[.int .u64 (wd.rwX sum), .bool (wd.rwB sum)]) ∧ w' = W) := fun W => wd.rspec_any sum hsu W
  have HCA : Hid (∀ W, Calls Tryd.prog 40 #[.string path] W fun e w' => e = .returned (.bool (wd.aokB path)) ∧ w' = W) := fun W => wd.aspec_any path hp W
  have HCN : Hid (∀ W, Calls Tryd.prog 42 #[.string key] W fun e w' => e = .returned (.bool (nm.nameB key)) ∧ w' = W) := fun W => nm.spec_any key hk W
  have HCD : Hid (∀ W, Below w.heap.size w W → Calls Tryd.prog 41 #[.slice a n cap] W fun e w' => e = .returned (.bool (adA l n && (asA l n && decide (n ≤ 2000)))) ∧ Below W.heap.size W w') := fun W h => sadr_any l a n cap W (hb.below h) hn hs
  obtain ⟨q, hq⟩ : ∃ q, wd.rwX sum = q := ⟨_, rfl⟩
  rw [hq] at HCR
  obtain ⟨o, ho⟩ : ∃ o : Obj, o = .cells #[.string path, .string sum, .int .i64 z, .slice a n cap, .string key, .int .u64 (sig : Int)] 28 := ⟨_, rfl⟩
  have HBW : Hid (∀ W, Below (w.alloc o).heap.size (w.alloc o) W → Below w.heap.size w W) := fun W h => ((Below.refl _ _).alloc (Nat.le_refl _) o).trans (h.mono (by simp))
  have HKC : Hid (∀ W, Below (w.alloc o).heap.size (w.alloc o) W → (W.cell? ⟨w.heap.size, 0, none⟩ = some (.string path) ∧ W.cell? ⟨w.heap.size, 1, none⟩ = some (.string sum) ∧ W.cell? ⟨w.heap.size, 2, none⟩ = some (.int .i64 z)) ∧ W.cell? ⟨w.heap.size, 3, none⟩ = some (.slice a n cap) ∧ W.cell? ⟨w.heap.size, 4, none⟩ = some (.string key) ∧ W.cell? ⟨w.heap.size, 5, none⟩ = some (.int .u64 (sig : Int))) := by rw [ho]; exact six_cells
  have B0 : Below w.heap.size w (w.alloc o) := (Below.refl _ _).alloc (Nat.le_refl _) o
  rw [ho] at B0
  obtain ⟨d1, e1⟩ : ∃ d, wd.rwB sum = d := ⟨_, rfl⟩
  obtain ⟨d2, e2⟩ : ∃ d, wd.aokB path = d := ⟨_, rfl⟩
  obtain ⟨d3, e3⟩ : ∃ d, nm.nameB key = d := ⟨_, rfl⟩
  obtain ⟨d4, e4⟩ : ∃ d, (adA l n && (asA l n && decide (n ≤ 2000))) = d := ⟨_, rfl⟩
  rw [e1] at HCR
  rw [e2] at HCA
  rw [e3] at HCN
  rw [e4] at HCD
  rw [e1, e2, e3, e4]
  clear e1 e2 e3 e4 hb hs hp hsu hk hq
  have e300 : decide (n ≤ 300) = decide ((n : Int) ≤ 300) := by simp; omega
  rw [e300]
  clear e300
  by_cases z0 : 0 ≤ z
  · by_cases z1 : z ≤ 1000000
    · by_cases n3 : (n : Int) ≤ 300
      · rw [decide_eq_true z0, decide_eq_true z1, decide_eq_true n3]
        cases d2
        · go_enter Tryd.func19, Tryd.ntmps19
          go_wp2_with (first
            | (go_at_call 35; refine (HCR.out _).mono ?_; rintro e w1 ⟨rfl, hw⟩; obtain rfl := hw.symm; clear hw)
            | (go_at_call 40; refine (HCA.out _).mono ?_; rintro e w2 ⟨rfl, hw⟩; obtain rfl := hw.symm; clear hw)
            | go_in)
          go_ret
          exact ⟨ret_bool (by simp), B0⟩
        cases d1
        · go_enter Tryd.func19, Tryd.ntmps19
          go_wp2_with (first
            | (go_at_call 35; refine (HCR.out _).mono ?_; rintro e w1 ⟨rfl, hw⟩; obtain rfl := hw.symm; clear hw)
            | (go_at_call 40; refine (HCA.out _).mono ?_; rintro e w2 ⟨rfl, hw⟩; obtain rfl := hw.symm; clear hw)
            | go_in)
          go_ret
          exact ⟨ret_bool (by simp), B0⟩
        go_enter Tryd.func19, Tryd.ntmps19
        go_wp2_with (first
          | (go_at_call 35; refine (HCR.out _).mono ?_; rintro e w1 ⟨rfl, hw⟩; obtain rfl := hw.symm; clear hw)
          | (go_at_call 40; refine (HCA.out _).mono ?_; rintro e w2 ⟨rfl, hw⟩; obtain rfl := hw.symm; clear hw)
          | (go_at_call 41; refine (HCD.out _ B0).mono ?_; rintro e w3 ⟨rfl, hl3⟩; refine Hid.out ?_)
          | go_in)
        refine Lib.hid ?_
        rw [← ho] at hl3
        have B3 := HBW.out _ hl3
        obtain ⟨⟨k0, k1, k2⟩, k3, k4, k5⟩ := HKC.out _ hl3
        clear hl3
        cases d4
        · go_wp2
          go_ret
          exact ⟨ret_bool (by simp), B3⟩
        · go_wp2_with (first | (go_at_call 42; refine (HCN.out _).mono ?_; rintro e w4 ⟨rfl, hw⟩; obtain rfl := hw.symm; clear hw) | go_in)
          go_ret
          exact ⟨ret_bool (by simp), B3⟩
      · rw [decide_eq_true z0, decide_eq_true z1, decide_eq_false n3]
        cases d2 <;> cases d1
        · go_enter Tryd.func19, Tryd.ntmps19
          go_wp2_with (first
            | (go_at_call 35; refine (HCR.out _).mono ?_; rintro e w1 ⟨rfl, hw⟩; obtain rfl := hw.symm; clear hw)
            | (go_at_call 40; refine (HCA.out _).mono ?_; rintro e w2 ⟨rfl, hw⟩; obtain rfl := hw.symm; clear hw)
            | go_in)
          go_ret
          exact ⟨ret_bool (by simp), B0⟩
        · go_enter Tryd.func19, Tryd.ntmps19
          go_wp2_with (first
            | (go_at_call 35; refine (HCR.out _).mono ?_; rintro e w1 ⟨rfl, hw⟩; obtain rfl := hw.symm; clear hw)
            | (go_at_call 40; refine (HCA.out _).mono ?_; rintro e w2 ⟨rfl, hw⟩; obtain rfl := hw.symm; clear hw)
            | go_in)
          go_ret
          exact ⟨ret_bool (by simp), B0⟩
        · go_enter Tryd.func19, Tryd.ntmps19
          go_wp2_with (first
            | (go_at_call 35; refine (HCR.out _).mono ?_; rintro e w1 ⟨rfl, hw⟩; obtain rfl := hw.symm; clear hw)
            | (go_at_call 40; refine (HCA.out _).mono ?_; rintro e w2 ⟨rfl, hw⟩; obtain rfl := hw.symm; clear hw)
            | go_in)
          go_ret
          exact ⟨ret_bool (by simp), B0⟩
        · go_enter Tryd.func19, Tryd.ntmps19
          go_wp2_with (first
            | (go_at_call 35; refine (HCR.out _).mono ?_; rintro e w1 ⟨rfl, hw⟩; obtain rfl := hw.symm; clear hw)
            | (go_at_call 40; refine (HCA.out _).mono ?_; rintro e w2 ⟨rfl, hw⟩; obtain rfl := hw.symm; clear hw)
            | go_in)
          go_ret
          exact ⟨ret_bool (by simp), B0⟩
    · rw [decide_eq_true z0, decide_eq_false z1]
      cases d2 <;> cases d1
      · go_enter Tryd.func19, Tryd.ntmps19
        go_wp2_with (first
          | (go_at_call 35; refine (HCR.out _).mono ?_; rintro e w1 ⟨rfl, hw⟩; obtain rfl := hw.symm; clear hw)
          | (go_at_call 40; refine (HCA.out _).mono ?_; rintro e w2 ⟨rfl, hw⟩; obtain rfl := hw.symm; clear hw)
          | go_in)
        go_ret
        exact ⟨ret_bool (by simp), B0⟩
      · go_enter Tryd.func19, Tryd.ntmps19
        go_wp2_with (first
          | (go_at_call 35; refine (HCR.out _).mono ?_; rintro e w1 ⟨rfl, hw⟩; obtain rfl := hw.symm; clear hw)
          | (go_at_call 40; refine (HCA.out _).mono ?_; rintro e w2 ⟨rfl, hw⟩; obtain rfl := hw.symm; clear hw)
          | go_in)
        go_ret
        exact ⟨ret_bool (by simp), B0⟩
      · go_enter Tryd.func19, Tryd.ntmps19
        go_wp2_with (first
          | (go_at_call 35; refine (HCR.out _).mono ?_; rintro e w1 ⟨rfl, hw⟩; obtain rfl := hw.symm; clear hw)
          | (go_at_call 40; refine (HCA.out _).mono ?_; rintro e w2 ⟨rfl, hw⟩; obtain rfl := hw.symm; clear hw)
          | go_in)
        go_ret
        exact ⟨ret_bool (by simp), B0⟩
      · go_enter Tryd.func19, Tryd.ntmps19
        go_wp2_with (first
          | (go_at_call 35; refine (HCR.out _).mono ?_; rintro e w1 ⟨rfl, hw⟩; obtain rfl := hw.symm; clear hw)
          | (go_at_call 40; refine (HCA.out _).mono ?_; rintro e w2 ⟨rfl, hw⟩; obtain rfl := hw.symm; clear hw)
          | go_in)
        go_ret
        exact ⟨ret_bool (by simp), B0⟩
  · rw [decide_eq_false z0]
    cases d2 <;> cases d1
    · go_enter Tryd.func19, Tryd.ntmps19
      go_wp2_with (first
        | (go_at_call 35; refine (HCR.out _).mono ?_; rintro e w1 ⟨rfl, hw⟩; obtain rfl := hw.symm; clear hw)
        | (go_at_call 40; refine (HCA.out _).mono ?_; rintro e w2 ⟨rfl, hw⟩; obtain rfl := hw.symm; clear hw)
        | go_in)
      go_ret
      exact ⟨ret_bool (by simp), B0⟩
    · go_enter Tryd.func19, Tryd.ntmps19
      go_wp2_with (first
        | (go_at_call 35; refine (HCR.out _).mono ?_; rintro e w1 ⟨rfl, hw⟩; obtain rfl := hw.symm; clear hw)
        | (go_at_call 40; refine (HCA.out _).mono ?_; rintro e w2 ⟨rfl, hw⟩; obtain rfl := hw.symm; clear hw)
        | go_in)
      go_ret
      exact ⟨ret_bool (by simp), B0⟩
    · go_enter Tryd.func19, Tryd.ntmps19
      go_wp2_with (first
        | (go_at_call 35; refine (HCR.out _).mono ?_; rintro e w1 ⟨rfl, hw⟩; obtain rfl := hw.symm; clear hw)
        | (go_at_call 40; refine (HCA.out _).mono ?_; rintro e w2 ⟨rfl, hw⟩; obtain rfl := hw.symm; clear hw)
        | go_in)
      go_ret
      exact ⟨ret_bool (by simp), B0⟩
    · go_enter Tryd.func19, Tryd.ntmps19
      go_wp2_with (first
        | (go_at_call 35; refine (HCR.out _).mono ?_; rintro e w1 ⟨rfl, hw⟩; obtain rfl := hw.symm; clear hw)
        | (go_at_call 40; refine (HCA.out _).mono ?_; rintro e w2 ⟨rfl, hw⟩; obtain rfl := hw.symm; clear hw)
        | go_in)
      go_ret
      exact ⟨ret_bool (by simp), B0⟩

end Go.Proofs.YtheponigjofknaaDoor.mt
