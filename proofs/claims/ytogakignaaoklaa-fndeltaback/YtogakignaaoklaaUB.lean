import Derived.Test.YtogakignaaoklaaUA
namespace Go.Proofs.Ytogakignaaoklaa.up
open Go.ChangeShapes Go.WideShapes Go.ChangeAt Go.RowKit Go.Deep
set_option linter.unusedVariables false
set_option linter.unusedSimpArgs false

/-! ### Bytes that are unpacked: the program's numbers -/

/-- The bytes of a block. -/
def By (w : World) (b : Nat) (l : List UInt8) : Prop := ∀ j (h : j < l.length), w.cell? ⟨b, j, none⟩ = some (.int .u8 (l[j].toNat : Int))
theorem By.grown {w w' : World} {b p : Nat} {l : List UInt8} (h : By w b l) (hg : w.grownBy w' (some p)) (hb : b ≠ p) : By w' b l := fun j hj => by
  have hlt := World.block_lt_of_cell? _ _ (h j hj)
  exact (World.cell?_of_block (a := ⟨b, j, none⟩) (hg.block b hlt (fun e => hb (Option.some.inj e)))).trans (h j hj)
theorem By.below {w w' : World} {b : Nat} {l : List UInt8} (h : By w b l) (hb : Below w.heap.size w w') : By w' b l := fun j hj => (hb.cell (p := ⟨b, j, none⟩) (World.block_lt_of_cell? _ _ (h j hj))).trans (h j hj)

theorem num_ne (x : Nat) : bf.num x ≠ [] := by
  by_cases h : x < 128
  · rw [bf.num_low h]; simp
  · rw [bf.num_high h]; simp

/-- How long what is left is. -/
def leftN (p : Nat) (w : World) : Nat := match w.cell? ⟨p, 0, none⟩ with
  | some (.slice _ n _) => n
  | _ => 0
theorem leftN_of {w : World} {p b N i : Nat} (h : Rs w p b N i) : leftN p w = N - i := by
  obtain ⟨o, c, h1, _⟩ := h
  unfold leftN
  rw [h1]

/-- One group more. -/
def nx (a sh v : Nat) : Nat := (bits BinOp.or IntKind.u64 (a : Int) (IntKind.u64.wrap ((v : Int) % 128 * 2 ^ min sh 64))).toNat
theorem nx_wf (a sh v : Nat) : bits BinOp.or IntKind.u64 (a : Int) (IntKind.u64.wrap ((v : Int) % 128 * 2 ^ min sh 64)) = (nx a sh v : Int) ∧ nx a sh v < 18446744073709551616 := by
  have h := wf_bits BinOp.or .u64 (a : Int) (IntKind.u64.wrap ((v : Int) % 128 * 2 ^ min sh 64))
  have h' : 0 ≤ bits BinOp.or IntKind.u64 (a : Int) (IntKind.u64.wrap ((v : Int) % 128 * 2 ^ min sh 64)) ∧ bits BinOp.or IntKind.u64 (a : Int) (IntKind.u64.wrap ((v : Int) % 128 * 2 ^ min sh 64)) ≤ 18446744073709551615 := by
    simpa [Lit.wf, IntKind.min, IntKind.max, IntKind.signed, IntKind.bits] using h
  unfold nx
  omega
theorem nx_eq {a sh v : Nat} (ha : a < 2 ^ sh) (hb : a + v % 128 * 2 ^ sh ≤ 268435455) : nx a sh v = a + v % 128 * 2 ^ sh := by
  have hc : IntKind.u64.wrap ((v : Int) % 128 * 2 ^ min sh 64) = ((v % 128 * 2 ^ sh : Nat) : Int) := by
    by_cases h0 : v % 128 = 0
    · rw [show (v : Int) % 128 = 0 by omega, h0, Int.zero_mul, Nat.zero_mul]; rfl
    · have h1 : 1 ≤ v % 128 := by omega
      have h2 : 2 ^ sh ≤ v % 128 * 2 ^ sh := Nat.le_mul_of_pos_left _ h1
      have h3 : sh < 64 := by
        apply Classical.byContradiction
        intro h
        have : 2 ^ 64 ≤ 2 ^ sh := Nat.pow_le_pow_right (by omega) (by omega)
        have e64 : (2 : Nat) ^ 64 = 18446744073709551616 := rfl
        omega
      rw [Nat.min_eq_left (by omega)]
      have e : (v : Int) % 128 * 2 ^ sh = ((v % 128 * 2 ^ sh : Nat) : Int) := by
        rw [Int.natCast_mul, Int.natCast_pow]; rfl
      rw [e, IntKind.wrap_u64]
      omega
  have h := (nx_wf a sh v).1
  rw [hc, bits_or_u64_nat a (v % 128 * 2 ^ sh) (by omega) (by omega)] at h
  have ho := Nat.two_pow_add_eq_or_of_lt (i := sh) ha (v % 128)
  rw [Nat.mul_comm (2 ^ sh)] at ho
  rw [Nat.or_comm, ← ho] at h
  omega

/-- What a number leaves. -/
def NumR (w w' : World) (p b : Nat) (l : List UInt8) (i : Nat) (e : Ending) : Prop := ∃ (m i' : Nat), e = .returned (.int .u64 (m : Int)) ∧ m < 18446744073709551616 ∧ i ≤ i' ∧ Rs w' p b l.length i' ∧ w.grownBy w' (some p) ∧ ∀ x tail, l.drop i = bf.num x ++ tail → x ≤ 268435455 → m = x ∧ l.drop i' = tail

/-- Where its loop stands. -/
structure NumI (w wr : World) (p b : Nat) (l : List UInt8) (i : Nat) (a sh i' : Nat) : Prop where
  ab : a < 18446744073709551616
  le : i ≤ i'
  shl : sh ≤ 7 * (i' - i)
  rs : Rs wr p b l.length i'
  gr : w.grownBy wr (some p)
  pr : ∀ x tail, l.drop i = bf.num x ++ tail → x ≤ 268435455 → ∃ y, l.drop i' = bf.num y ++ tail ∧ x = a + y * 2 ^ sh ∧ a < 2 ^ sh

set_option maxRecDepth 100000 in
set_option maxHeartbeats 4000000 in
theorem number_any (b p i : Nat) (l : List UInt8) (hbp : b ≠ p) (hN : l.length ≤ 1048576) (w : World) (h : Rs w p b l.length i) (hB : By w b l) :
    Calls Try.prog 39 #[.pointer (some ⟨p, 0, none⟩)] w fun e w' => NumR w w' p b l i e := by
  have HBY : Hid (∀ W, w.grownBy W (some p) → By W b l) := fun W hW => hB.grown hW hbp
  have HCU : Hid (∀ W j, Rs W p b l.length j → Calls Try.prog 23 #[.pointer (some ⟨p, 0, none⟩), .int .u64 1] W fun e w' => CutR W w' p b l.length j 1 e) := fun W j hW => cut_any b p l.length j 1 (by omega) W hW hN
  have HI0 : Hid (NumI w w p b l i 0 0 i) := ⟨by omega, Nat.le_refl _, by omega, h, grown_refl _ _, fun x tail hx _ => ⟨x, hx, by simp, by simp⟩⟩
  clear h hB
  go_enter Try.func39, Try.ntmps39
  go_wp2
  go_loopw [3, 4, 5] (fun v s _ wr => ∃ (a sh i' : Nat), v = .int .u64 (a : Int) ∧ s = .int .i64 (sh : Int) ∧ NumI w wr p b l i a sh i') (fun _ _ _ wr => leftN p wr)
  case atStart => exact ⟨0, 0, i, rfl, rfl, HI0.out⟩
  case round =>
    obtain ⟨a, sh, i', rfl, rfl, hI⟩ := hrel
    have HII : Hid (NumI w wr p b l i a sh i') := hI
    have hRs := hI.rs
    obtain ⟨o, c, hc, hf, ho, hcN, hcm, hiN⟩ := hRs
    have hsh : sh ≤ 7340032 := by have := hI.shl; omega
    clear hI
    by_cases hil : i' < l.length
    · obtain ⟨n, hn⟩ : ∃ n, l.length - i' = n + 1 := ⟨l.length - i' - 1, by omega⟩
      rw [hn] at hc
      have hpos : (0 : Int) < ((n + 1 : Nat) : Int) := by omega
      obtain ⟨y, hy⟩ : ∃ y, y = l[i'] := ⟨_, rfl⟩
      have HYC : Hid (∀ W, w.grownBy W (some p) → W.cell? ⟨b, i', none⟩ = some (.int .u8 (y.toNat : Int))) := fun W hW => by rw [hy]; exact HBY.out W hW i' hil
      have HDR : Hid (l.drop i' = y :: l.drop (i' + 1)) := by show _ = _; rw [hy]; exact List.drop_eq_getElem_cons hil
      have hyb : (y.toNat : Int) < 256 := by have := y.toNat_lt; omega
      have HMN : Hid (min 1 (l.length - i') = 1) := by show _ = _; omega
      clear hn hy
      go_wp2_with (go_at_call 23; refine (HCU.out _ _ HII.out.rs).mono ?_; rintro e w1 ⟨o1, k1, hk1, rfl, ho1, hr1, hg1⟩; obtain rfl : k1 = 1 := hk1.trans HMN.out; obtain rfl := ho1 hil; clear hk1; have hcell := HYC.out w1 (HII.out.gr.trans hg1); refine Hid.out ?_)
      refine Lib.hid ?_
      by_cases hlow : y.toNat < 128
      · have hlow' : (y.toNat : Int) < 128 := by omega
        have HR : Hid (NumR w w1 p b l i (.returned (.int .u64 (nx a sh y.toNat : Int)))) := by
          refine ⟨_, o1 + 1, rfl, (nx_wf a sh y.toNat).2, by have := HII.out.le; omega, hr1, HII.out.gr.trans hg1, fun x tail hx hxb => ?_⟩
          obtain ⟨z, hz, hxe, hal⟩ := HII.out.pr x tail hx hxb
          rw [HDR.out] at hz
          by_cases hz1 : z < 128
          · rw [bf.num_low hz1, List.singleton_append, List.cons.injEq] at hz
            have hyz : y.toNat = z := by rw [hz.1, UInt8.toNat_ofNat']; omega
            refine ⟨?_, hz.2⟩
            rw [nx_eq hal (by rw [hyz, Nat.mod_eq_of_lt hz1]; omega), hyz, Nat.mod_eq_of_lt hz1, hxe]
          · rw [bf.num_high hz1, List.cons_append, List.cons.injEq] at hz
            have hyz : y.toNat = z % 128 + 128 := by rw [hz.1, UInt8.toNat_ofNat']; omega
            omega
        have hnx := (nx_wf a sh y.toNat).1
        clear hr1 hg1
        go_wp2
        go_ret
        exact HR.out
      · have hlow' : ¬ (y.toNat : Int) < 128 := by omega
        have HR : Hid (NumI w w1 p b l i (nx a sh y.toNat) (sh + 7) (o1 + 1)) := by
          refine ⟨(nx_wf a sh y.toNat).2, by have := HII.out.le; omega, by have h1 := HII.out.le; have h2 := HII.out.shl; omega, hr1, HII.out.gr.trans hg1, fun x tail hx hxb => ?_⟩
          obtain ⟨z, hz, hxe, hal⟩ := HII.out.pr x tail hx hxb
          rw [HDR.out] at hz
          by_cases hz1 : z < 128
          · rw [bf.num_low hz1, List.singleton_append, List.cons.injEq] at hz
            have hyz : y.toNat = z := by rw [hz.1, UInt8.toNat_ofNat']; omega
            omega
          · rw [bf.num_high hz1, List.cons_append, List.cons.injEq] at hz
            have hyz : y.toNat = z % 128 + 128 := by rw [hz.1, UInt8.toNat_ofNat']; omega
            have hm : y.toNat % 128 = z % 128 := by omega
            have hsplit : z * 2 ^ sh = z % 128 * 2 ^ sh + z / 128 * (128 * 2 ^ sh) := by
              rw [← Nat.mul_assoc, ← Nat.add_mul]
              congr 1
              omega
            have hpow : 2 ^ (sh + 7) = 128 * 2 ^ sh := by rw [Nat.pow_add]; omega
            have hb1 : a + y.toNat % 128 * 2 ^ sh ≤ 268435455 := by rw [hm]; omega
            refine ⟨z / 128, hz.2, ?_, ?_⟩
            · rw [nx_eq hal hb1, hm, hpow]; omega
            · rw [nx_eq hal hb1, hm, hpow]
              have : z % 128 * 2 ^ sh ≤ 127 * 2 ^ sh := Nat.mul_le_mul_right _ (by omega)
              omega
        have HLT : Hid (leftN p w1 < leftN p wr) := by
          show _ < _
          rw [leftN_of hr1, leftN_of HII.out.rs]
          omega
        have hnx := (nx_wf a sh y.toNat).1
        clear hr1 hg1
        go_wp2
        exact ⟨⟨_, sh + 7, o1 + 1, rfl, by go_num, HR.out⟩, HLT.out⟩
    · have hn0 : l.length - i' = 0 := by omega
      rw [hn0] at hc
      have HR : Hid (NumR w wr p b l i (.returned (.int .u64 (a : Int)))) := by
        refine ⟨a, i', rfl, HII.out.ab, HII.out.le, HII.out.rs, HII.out.gr, fun x tail hx hxb => ?_⟩
        obtain ⟨z, hz, _, _⟩ := HII.out.pr x tail hx hxb
        rw [List.drop_eq_nil_of_le (by omega)] at hz
        exact absurd (List.append_eq_nil_iff.1 hz.symm).1 (num_ne z)
      clear hn0
      go_wp2
      go_ret
      exact HR.out

end Go.Proofs.Ytogakignaaoklaa.up
