import Derived.Test.YtogakignaaoklaaRows
import Derived.Test.YtogakignaaoklaaBF
namespace Go.Proofs.Ytogakignaaoklaa.bf
open Go.ChangeShapes Go.WideShapes Go.ChangeAt Go.RowKit Go.Deep
set_option linter.unusedVariables false
set_option linter.unusedSimpArgs false

/-! ### Numbers in groups of seven bits, and texts behind their sizes: both sides -/

theorem info5 : (Try.prog.info? 5).map (fun i => (i.zero, i.size, i.bytes)) = some (some (.int .u8 0), 1, 1) := by kernel_rfl

def num (n : Nat) : List UInt8 := if n < 128 then [UInt8.ofNat n] else UInt8.ofNat (n % 128 + 128) :: num (n / 128)
termination_by n
decreasing_by omega

theorem num_low {n : Nat} (h : n < 128) : num n = [UInt8.ofNat n] := by rw [num, if_pos h]
theorem num_high {n : Nat} (h : ¬ n < 128) : num n = UInt8.ofNat (n % 128 + 128) :: num (n / 128) := by rw [num, if_neg h]

theorem num_len : ∀ (k n : Nat), n < 128 * 2 ^ k → (num n).length ≤ k + 1
  | 0, n, h => by rw [num_low (by omega)]; simp
  | k + 1, n, h => by
    by_cases hn : n < 128
    · rw [num_low hn]; simp
    · rw [num_high hn]
      have := num_len k (n / 128) (by rw [Nat.pow_succ] at h; omega)
      simp; omega

theorem one_at (w : World) (x : UInt8) (V : Int) (e : TypeId) (hV : V = (x.toNat : Int)) : ∀ j u, (byteVals [x])[j]? = some u → (w.alloc (.cells #[.int .u8 V] e)).cell? ((⟨w.heap.size, 0, none⟩ : Addr).add j) = some u := by
  subst hV
  exact one_new w _ e

theorem one_at' (w : World) (k : Nat) (hk : k = w.heap.size) (x : UInt8) (V : Int) (e : TypeId) (hV : V = (x.toNat : Int)) : ∀ j u, (byteVals [x])[j]? = some u → (w.alloc (.cells #[.int .u8 V] e)).cell? ((⟨k, 0, none⟩ : Addr).add j) = some u := by
  subst hk
  exact one_at w x V e hV

theorem byte_val {n : Nat} (h : n < 256) : ((n : Nat) : Int) = ((UInt8.ofNat n).toNat : Int) := by
  simp [UInt8.toNat_ofNat]; omega

set_option maxRecDepth 100000 in
theorem num_any (base g cap z0 : Nat) (l : List UInt8) (n : Nat) (hn : n ≤ 268435455) (w : World) (h : Bf base w g cap l) (hl : l.length ≤ 1099511627000) (hz0 : z0 = l.length) :
    Calls Try.prog 37 #[.slice (some ⟨g, 0, none⟩) z0 cap, .int .i64 (n : Int)] w fun e w' => ∃ g' cap' z', e = .returned (.slice (some ⟨g', 0, none⟩) z' cap') ∧ Hid (z' = (l ++ num n).length) ∧ Ap base w g w' g' cap' (l ++ num n) := by
  have HZ0 : Hid (z0 = l.length) := hz0
  clear hz0
  go_enter Try.func37, Try.ntmps37
  go_wp2
  go_loopw [0, 1] (fun b x wr => ∃ (g' cap' m z : Nat) (pre : List UInt8), z = (l ++ pre).length ∧ b = .slice (some ⟨g', 0, none⟩) z cap' ∧ x = .int .i64 (m : Int) ∧ m ≤ n ∧ num n = pre ++ num m ∧ Ap base w g wr g' cap' (l ++ pre)) (fun _ x _ => (intOf x).toNat)
  case atStart => exact ⟨g, cap, n, z0, [], by rw [List.append_nil]; exact HZ0.out, rfl, rfl, Nat.le_refl _, rfl, by rw [List.append_nil]; exact Ap.refl h⟩
  case round =>
    obtain ⟨g', cap', m, z, pre, hz, rfl, rfl, hm, he, hap⟩ := hrel
    obtain ⟨L, hL⟩ : ∃ L, L = l ++ pre := ⟨_, rfl⟩
    rw [← hL] at hz hap
    have HLL : Hid (L = l ++ pre) := hL
    have HZ : Hid (z = L.length) := hz
    have HE : Hid (num n = pre ++ num m) := he
    have HL : Hid (L.length + 1 ≤ 1099511627776) := by
      have h1 := num_len 21 n (by rw [show 128 * 2 ^ 21 = 268435456 from rfl]; omega)
      rw [he, List.length_append] at h1
      show _ ≤ _
      rw [hL, List.length_append]
      omega
    have HAP : Hid (Ap base w g wr g' cap' L) := hap
    clear hz he hap hL
    by_cases hlt : m < 128
    · have hlt' : ¬ (128 : Int) ≤ (m : Int) := by omega
      obtain ⟨x, hx⟩ : ∃ x, x = UInt8.ofNat m := ⟨_, rfl⟩
      have HX : Hid (num n = pre ++ [x]) := by show _ = _; rw [HE.out, num_low hlt, hx]
      have HV : Hid ((m : Int) = (x.toNat : Int)) := by show _ = _; rw [hx]; exact byte_val (n := m) (by omega)
      clear hx
      go_wp2_with (first
        | (at_builtin; refine app_bytes _ rfl _ _ 22 rfl 5 Try.underlying22 info5 rfl HZ.out.symm ⟨wr.heap.size, 0, none⟩ 1 (m := [x]) rfl rfl (HAP.out.bf.below ((Below.refl _ _).alloc (Nat.le_refl _) _)) (one_at wr _ _ _ HV.out) HL.out ?_)
        | go_in)
      intro g2 c2 w2 n2 hn2 hap2
      have HA : Hid (Ap base w g w2 g2 c2 (l ++ num n)) := by
        have := HAP.out.trans (hap2.after ((Below.refl _ _).alloc (Nat.le_refl _) _))
        rwa [HLL.out, List.append_assoc, ← HX.out] at this
      have HN : Hid (n2 = (l ++ num n).length) := by have := hn2.out; have h2 := HLL.out; show n2 = _; rw [HX.out, ← List.append_assoc, ← h2]; simpa using this
      clear hap2 hn2
      go_wp2
      go_ret
      exact ⟨g2, c2, n2, rfl, HN, HA.out⟩
    · have hlt' : (128 : Int) ≤ (m : Int) := by omega
      obtain ⟨x, hx⟩ : ∃ x, x = UInt8.ofNat (m % 128 + 128) := ⟨_, rfl⟩
      have HV : Hid ((m : Int) % 128 + 128 = (x.toNat : Int)) := by show _ = _; rw [hx, ← byte_val (n := m % 128 + 128) (by omega)]; omega
      have HF : Hid (num n = (pre ++ [x]) ++ num (m / 128)) := by show _ = _; rw [HE.out, num_high hlt, hx]; simp
      clear hx
      go_wp2_with (first
        | (at_builtin; refine app_bytes _ rfl _ _ 22 rfl 5 Try.underlying22 info5 rfl HZ.out.symm ⟨wr.heap.size, 0, none⟩ 1 (m := [x]) rfl rfl (HAP.out.bf.below ((Below.refl _ _).alloc (Nat.le_refl _) _)) (one_at wr _ _ _ HV.out) HL.out ?_)
        | go_in)
      intro g2 c2 w2 n2 hn2 hap2
      have HA : Hid (Ap base w g w2 g2 c2 (l ++ (pre ++ [x]))) := by
        have := HAP.out.trans (hap2.after ((Below.refl _ _).alloc (Nat.le_refl _) _))
        rwa [HLL.out, List.append_assoc] at this
      have HN : Hid (n2 = (l ++ (pre ++ [x])).length) := by have := hn2.out; have h2 := HLL.out; show n2 = _; rw [← List.append_assoc, ← h2]; simpa using this
      clear hap2 hn2
      go_wp2
      go_roundw
      case rel => exact ⟨g2, c2, m / 128, n2, _, HN.out, rfl, by go_num, by omega, HF.out, HA.out⟩
      case measure => simp [intOf]; omega

set_option maxRecDepth 100000 in
theorem numb_any (base g cap z0 : Nat) (l : List UInt8) (n : Nat) (hn : n ≤ 268435455) (w : World) (h : Bf base w g cap l) (hl : l.length ≤ 1099511627000) (hz0 : z0 = l.length) :
    Calls Try.prog 44 #[.slice (some ⟨g, 0, none⟩) z0 cap, .int .i64 (n : Int)] w fun e w' => ∃ g' cap' z', e = .returned (.slice (some ⟨g', 0, none⟩) z' cap') ∧ Hid (z' = (l ++ num n).length) ∧ Ap base w g w' g' cap' (l ++ num n) := by
  have HZ0 : Hid (z0 = l.length) := hz0
  clear hz0
  go_enter Try.func44, Try.ntmps44
  go_wp2
  go_loopw [0, 5] (fun b x wr => ∃ (g' cap' m z : Nat) (pre : List UInt8), z = (l ++ pre).length ∧ b = .slice (some ⟨g', 0, none⟩) z cap' ∧ x = .int .u64 (m : Int) ∧ m ≤ n ∧ num n = pre ++ num m ∧ Ap base w g wr g' cap' (l ++ pre)) (fun _ x _ => (intOf x).toNat)
  case atStart => exact ⟨g, cap, n, z0, [], by rw [List.append_nil]; exact HZ0.out, rfl, by go_num, Nat.le_refl _, rfl, by rw [List.append_nil]; exact Ap.refl h⟩
  case round =>
    obtain ⟨g', cap', m, z, pre, hz, rfl, rfl, hm, he, hap⟩ := hrel
    obtain ⟨L, hL⟩ : ∃ L, L = l ++ pre := ⟨_, rfl⟩
    rw [← hL] at hz hap
    have HLL : Hid (L = l ++ pre) := hL
    have HZ : Hid (z = L.length) := hz
    have HE : Hid (num n = pre ++ num m) := he
    have HL : Hid (L.length + 1 ≤ 1099511627776) := by
      have h1 := num_len 21 n (by rw [show 128 * 2 ^ 21 = 268435456 from rfl]; omega)
      rw [he, List.length_append] at h1
      show _ ≤ _
      rw [hL, List.length_append]
      omega
    have HAP : Hid (Ap base w g wr g' cap' L) := hap
    clear hz he hap hL
    by_cases hlt : m < 128
    · have hlt' : ¬ (128 : Int) ≤ (m : Int) := by omega
      obtain ⟨x, hx⟩ : ∃ x, x = UInt8.ofNat m := ⟨_, rfl⟩
      have HX : Hid (num n = pre ++ [x]) := by show _ = _; rw [HE.out, num_low hlt, hx]
      have HV : Hid ((m : Int) = (x.toNat : Int)) := by show _ = _; rw [hx]; exact byte_val (n := m) (by omega)
      clear hx
      go_wp2_with (first
        | (at_builtin; refine app_bytes _ rfl _ _ 22 rfl 5 Try.underlying22 info5 rfl HZ.out.symm ⟨wr.heap.size, 0, none⟩ 1 (m := [x]) rfl rfl (HAP.out.bf.below ((Below.refl _ _).alloc (Nat.le_refl _) _)) (one_at wr _ _ _ HV.out) HL.out ?_)
        | go_in)
      intro g2 c2 w2 n2 hn2 hap2
      have HA : Hid (Ap base w g w2 g2 c2 (l ++ num n)) := by
        have := HAP.out.trans (hap2.after ((Below.refl _ _).alloc (Nat.le_refl _) _))
        rwa [HLL.out, List.append_assoc, ← HX.out] at this
      have HN : Hid (n2 = (l ++ num n).length) := by have := hn2.out; have h2 := HLL.out; show n2 = _; rw [HX.out, ← List.append_assoc, ← h2]; simpa using this
      clear hap2 hn2
      go_wp2
      go_ret
      exact ⟨g2, c2, n2, rfl, HN, HA.out⟩
    · have hlt' : (128 : Int) ≤ (m : Int) := by omega
      obtain ⟨x, hx⟩ : ∃ x, x = UInt8.ofNat (m % 128 + 128) := ⟨_, rfl⟩
      have HV : Hid ((m : Int) % 128 + 128 = (x.toNat : Int)) := by show _ = _; rw [hx, ← byte_val (n := m % 128 + 128) (by omega)]; omega
      have HF : Hid (num n = (pre ++ [x]) ++ num (m / 128)) := by show _ = _; rw [HE.out, num_high hlt, hx]; simp
      clear hx
      go_wp2_with (first
        | (at_builtin; refine app_bytes _ rfl _ _ 22 rfl 5 Try.underlying22 info5 rfl HZ.out.symm ⟨wr.heap.size, 0, none⟩ 1 (m := [x]) rfl rfl (HAP.out.bf.below ((Below.refl _ _).alloc (Nat.le_refl _) _)) (one_at wr _ _ _ HV.out) HL.out ?_)
        | go_in)
      intro g2 c2 w2 n2 hn2 hap2
      have HA : Hid (Ap base w g w2 g2 c2 (l ++ (pre ++ [x]))) := by
        have := HAP.out.trans (hap2.after ((Below.refl _ _).alloc (Nat.le_refl _) _))
        rwa [HLL.out, List.append_assoc] at this
      have HN : Hid (n2 = (l ++ (pre ++ [x])).length) := by have := hn2.out; have h2 := HLL.out; show n2 = _; rw [← List.append_assoc, ← h2]; simpa using this
      clear hap2 hn2
      go_wp2
      go_roundw
      case rel => exact ⟨g2, c2, m / 128, n2, _, HN.out, rfl, by go_num, by omega, HF.out, HA.out⟩
      case measure => simp [intOf]; omega

end Go.Proofs.Ytogakignaaoklaa.bf
