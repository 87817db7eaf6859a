import Derived.Test.YtbnmefponeomiaaDoorO
import Derived.RegionTactic
import Derived.ChangeAlike
namespace Go.Proofs.YtbnmefponeomiaaDoor.lx
open Go.ChangeShapes Go.WideShapes Go.ChangeAt Go.RowKit Go.Deep
set_option linter.unusedVariables false
set_option linter.unusedSimpArgs false

/-- The world while a number is read: the answer's block, and x. -/
def numW (w : World) (p v : Nat) (q : Nat) : World :=
  ((w.alloc (.cells #[.int .i64 0, .string ⟨#[]⟩, .int .i64 0, .int .i64 0] 39)).alloc (.cells #[.int .i64 0, .string ⟨#[]⟩, .int .i64 (v : Int), .int .i64 (p : Int)] 39)).drewN q

theorem dig_nat {b : UInt8} (h : isDig b = true) : 48 ≤ b.toNat ∧ b.toNat ≤ 57 := by
  simp only [isDig, decide_eq_true_eq] at h
  omega

theorem val_wrap {l : List UInt8} {k : Nat} {b : UInt8} (h : val l k ≤ 9007199254740992) (hb : l[k]? = some b) (hd : isDig b = true) :
    wrap64 (wrap64 (((val l k : Nat) : Int) * 10) + ((b.toNat : Int) - 48) % 256) = ((val l (k + 1) : Nat) : Int) := by
  have := dig_nat hd
  have e : val l (k + 1) = val l k * 10 + (b.toNat - 48) := by simp [val, hb]
  rw [e]
  simp only [wrap64, IntKind.wrap, IntKind.bits, IntKind.signed]
  simp
  omega

theorem int_no {s : ByteArray} {p k : Nat} {a : Int} {b : ByteArray} {c d : Int} (h1 : one (suf s p) = int (suf s p)) (hk : k < run isDig (suf s p)) (hb : 9007199254740992 < val (suf s p) (k + 1)) :
    OneIs (suf s p) p (.returned (.tuple #[.agg #[.int .i64 a, .string b, .int .i64 c, .int .i64 d], .int .i64 (-1)])) := by
  refine .inr ⟨?_, _, _, _, _, rfl⟩
  have := val_mono (suf s p) (k + 1) (run isDig (suf s p) - (k + 1))
  rw [show k + 1 + (run isDig (suf s p) - (k + 1)) = run isDig (suf s p) by omega] at this
  rw [h1, int, if_pos (by omega)]

theorem int_yes {s : ByteArray} {p k : Nat} (h1 : one (suf s p) = int (suf s p)) (hk : k = run isDig (suf s p)) (hv : val (suf s p) k ≤ 9007199254740992) :
    OneIs (suf s p) p (.returned (.tuple #[.agg #[.int .i64 2, .string ⟨#[]⟩, .int .i64 ((val (suf s p) k : Nat) : Int), .int .i64 (p : Int)], .int .i64 ((p : Int) + (k : Int))])) := by
  refine .inl ⟨⟨2, [], ((val (suf s p) k : Nat) : Int), k⟩, by rw [h1, int, ← hk, if_neg (by omega)], ?_⟩
  rfl

set_option maxHeartbeats 1000000 in
theorem one_int (s : ByteArray) (hs : s.size ≤ 20000) (p : Nat) (hp : p < s.size) (hf : isFirst s[p] = false) (hd : isDig s[p] = true) (w : World) :
    Calls Tryd.prog 41 #[.string s, .int .i64 (p : Int)] w fun e w' => OneIs (suf s p) p e ∧ Below w.heap.size w w' := by
  have hsl := suf_len s p
  have H1 : Hid (one (suf s p) = int (suf s p)) := one_digit hp hf hd
  have hrl := run_le isDig (suf s p)
  have hpi : (p : Int) < (s.size : Int) := by omega
  have hL : isLet s[p] = false := by simp only [isFirst, Bool.or_eq_false_iff] at hf; exact hf.1
  have hU : ((s[p].toNat : Int) == 95) = false := by simp only [isFirst, Bool.or_eq_false_iff] at hf; exact hf.2
  clear hf
  have hsd : ∀ (W : World) (q : Nat) (a : Addr) (v : Value), (W.drewN q).setCell a v = (W.setCell a v).drewN q := fun _ _ _ _ => rfl
  go_enter Tryd.func41, Tryd.ntmps41
  go_wp2_with (first
    | (go_at_call 35; refine (letter_any _ _).mono ?_; rintro e w' ⟨rfl, rfl⟩)
    | (go_at_call 36; refine (digit_any _ _).mono ?_; rintro e w' ⟨rfl, rfl⟩))
  go_loopw [8] (fun i wr => ∃ k q : Nat, k ≤ run isDig (suf s p) ∧ i = .int .i64 ((p + k : Nat) : Int) ∧ val (suf s p) k ≤ 9007199254740992 ∧ wr = numW w p (val (suf s p) k) q) (fun i _ => s.size - (intOf i).toNat)
  case atStart => exact ⟨0, 0, Nat.zero_le _, rfl, by simp [val], rfl⟩
  case round =>
    obtain ⟨k, q, hk, rfl, hv, rfl⟩ := hrel
    have HV : Hid (val (suf s p) k ≤ 9007199254740992) := hv
    clear hv
    by_cases hlt : p + k < s.size
    · have HG : Hid ((suf s p)[k]? = some s[p + k]) := suf_get hlt
      have hlti : ((p + k : Nat) : Int) < (s.size : Int) := by omega
      cases hw : isDig s[p + k] with
      | true =>
        have hk2 := run_lt hk HG.out hw
        have hval : wrap64 (wrap64 (((val (suf s p) k : Nat) : Int) * 10) + ((s[p + k].toNat : Int) - 48) % 256) = ((val (suf s p) (k + 1) : Nat) : Int) := val_wrap HV.out HG.out hw
        unfold numW
        by_cases hc : val (suf s p) (k + 1) ≤ 9007199254740992
        · have HC : Hid (val (suf s p) (k + 1) ≤ 9007199254740992) := hc
          have hci : ¬ (9007199254740992 : Int) < ((val (suf s p) (k + 1) : Nat) : Int) := by omega
          clear hc
          go_wp2_with (go_at_call 36; refine (digit_any _ _).mono ?_; rintro e w' ⟨rfl, rfl⟩)
          go_region
          go_wp2
          go_roundw
          case rel => exact ⟨k + 1, _, by omega, by go_num, HC.out, rfl⟩
          case measure => simp [intOf]; omega
        · have HC : Hid (9007199254740992 < val (suf s p) (k + 1)) := by show _ < _; omega
          have hci : (9007199254740992 : Int) < ((val (suf s p) (k + 1) : Nat) : Int) := by omega
          clear hc
          go_wp2_with (go_at_call 36; refine (digit_any _ _).mono ?_; rintro e w' ⟨rfl, rfl⟩)
          go_region
          go_wp2
          exact bodyPost_ret (v := .tuple #[.agg #[.int .i64 0, .string ⟨#[]⟩, .int .i64 ((val (suf s p) (k + 1) : Nat) : Int), .int .i64 (p : Int)], .int .i64 (-1)]) (by simp [results, Tryd.results41, go_sem]) rfl ⟨int_no H1.out hk2 HC.out, below_drewN (two_bel _ _ _) _⟩
      | false =>
        have HK : Hid (k = run isDig (suf s p)) := run_stop hk HG.out hw
        unfold numW
        go_wp2_with (go_at_call 36; refine (digit_any _ _).mono ?_; rintro e w' ⟨rfl, rfl⟩)
        exact bodyPost_ret (v := .tuple #[.agg #[.int .i64 2, .string ⟨#[]⟩, .int .i64 ((val (suf s p) k : Nat) : Int), .int .i64 (p : Int)], .int .i64 ((p : Int) + (k : Int))]) (by simp [results, Tryd.results41, go_sem]) rfl ⟨int_yes H1.out HK.out HV.out, below_drewN (two_bel _ _ _) _⟩
    · have HK : Hid (k = run isDig (suf s p)) := run_all hk (by omega)
      have hlti : ¬ ((p + k : Nat) : Int) < (s.size : Int) := by omega
      unfold numW
      go_wp2
      exact bodyPost_ret (v := .tuple #[.agg #[.int .i64 2, .string ⟨#[]⟩, .int .i64 ((val (suf s p) k : Nat) : Int), .int .i64 (p : Int)], .int .i64 ((p : Int) + (k : Int))]) (by simp [results, Tryd.results41, go_sem]) rfl ⟨int_yes H1.out HK.out HV.out, below_drewN (two_bel _ _ _) _⟩

end Go.Proofs.YtbnmefponeomiaaDoor.lx
