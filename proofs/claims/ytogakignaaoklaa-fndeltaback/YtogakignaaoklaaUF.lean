import Derived.Test.YtogakignaaoklaaUB
import Derived.Deep.RegionHeld3
namespace Go.Proofs.Ytogakignaaoklaa.up
open Go.ChangeShapes Go.WideShapes Go.ChangeAt Go.RowKit Go.Deep
set_option linter.unusedVariables false
set_option linter.unusedSimpArgs false

/-! ### Bytes that are unpacked: the specification's reader -/

/-- The reader's three fields. -/
structure Sr (C : Nat) (w : World) (p b N i : Nat) (bad : Bool) : Prop where
  c0 : w.cell? ⟨p, 0, none⟩ = some (.slice (some ⟨b, 0, none⟩) N C)
  c1 : w.cell? ⟨p, 1, none⟩ = some (.int .i64 (i : Int))
  c2 : w.cell? ⟨p, 2, none⟩ = some (.bool bad)
  fz : ∀ j, w.frozen? ⟨p, j, none⟩ = false
  le : i ≤ N

variable {C : Nat}

theorem Sr.setBad {w : World} {p b N i : Nat} {bad : Bool} (h : Sr C w p b N i bad) : Sr C (w.setCell ⟨p, 2, none⟩ (.bool true)) p b N i true :=
  ⟨by rw [World.cell?_setCell_other _ _ _ _ (fun e => by cases e)]; exact h.c0, by rw [World.cell?_setCell_other _ _ _ _ (fun e => by cases e)]; exact h.c1, World.cell?_setCell_same _ _ _ h.c2, fun j => by rw [← h.fz j]; simp [go_sem], h.le⟩
theorem Sr.setI {w : World} {p b N i j : Nat} {bad : Bool} (h : Sr C w p b N i bad) (hj : j ≤ N) : Sr C (w.setCell ⟨p, 1, none⟩ (.int .i64 (j : Int))) p b N j bad :=
  ⟨by rw [World.cell?_setCell_other _ _ _ _ (fun e => by cases e)]; exact h.c0, World.cell?_setCell_same _ _ _ h.c1, by rw [World.cell?_setCell_other _ _ _ _ (fun e => by cases e)]; exact h.c2, fun j => by rw [← h.fz j]; simp [go_sem], hj⟩

theorem and127N : ∀ n, n < 256 → bits BinOp.and IntKind.u8 ((n : Nat) : Int) 127 = ((n % 128 : Nat) : Int) := by decide +kernel
theorem and127 (y : UInt8) : bits BinOp.and IntKind.u8 (y.toNat : Int) 127 = ((y.toNat % 128 : Nat) : Int) := and127N _ y.toNat_lt
theorem sx_of {a sh v : Nat} (h : sh = 0 ∨ sh = 7 ∨ sh = 14 ∨ sh = 21) (ha : a < 2 ^ sh) (y : UInt8) (hv : v = y.toNat % 128) : wrap64 ((a : Int) + wrap64 (wrap64 (bits BinOp.and IntKind.u8 (y.toNat : Int) 127) * 2 ^ sh)) = ((a + v * 2 ^ sh : Nat) : Int) ∧ a + v * 2 ^ sh < 2 ^ (sh + 7) := by
  rw [and127, ← hv]
  have hv2 : v < 128 := by omega
  rcases h with rfl | rfl | rfl | rfl
  all_goals
    simp only [wrap64, Nat.reducePow, Int.reducePow, Nat.reduceAdd] at ha ⊢
    constructor <;> omega
theorem Sr.drew {w : World} {p b N i : Nat} {bad : Bool} (h : Sr C w p b N i bad) : Sr C w.drew p b N i bad := ⟨h.c0, h.c1, h.c2, h.fz, h.le⟩
theorem grown_drew {w w' : World} {r : Option Nat} (h : w.grownBy w' r) : w.grownBy w'.drew r := ⟨h.os, h.tape, h.output, h.size, h.block⟩

/-- What a number leaves. -/
def SnR (C : Nat) (w w' : World) (p b : Nat) (l : List UInt8) (i : Nat) (bad : Bool) (e : Ending) : Prop := ∃ (m i' : Nat) (bad' : Bool), e = .returned (.int .i64 (m : Int)) ∧ m < 268435456 ∧ i ≤ i' ∧ Sr C w' p b l.length i' bad' ∧ (bad = true → bad' = true) ∧ w.grownBy w' (some p) ∧ ∀ x tail, l.drop i = bf.num x ++ tail → x ≤ 268435455 → m = x ∧ l.drop i' = tail ∧ bad' = bad

structure SnI (C : Nat) (w wr : World) (p b : Nat) (l : List UInt8) (i : Nat) (bad : Bool) (a sh i' : Nat) : Prop where
  sh7 : sh = 0 ∨ sh = 7 ∨ sh = 14 ∨ sh = 21 ∨ sh = 28
  ab : a < 2 ^ sh
  le : i ≤ i'
  sr : Sr C wr p b l.length i' bad
  gr : w.grownBy wr (some p)
  pr : ∀ x tail, l.drop i = bf.num x ++ tail → x ≤ 268435455 → ∃ y, l.drop i' = bf.num y ++ tail ∧ x = a + y * 2 ^ sh ∧ (sh = 0 ∨ 1 ≤ y)

set_option maxRecDepth 100000 in
set_option maxHeartbeats 2000000 in
theorem read_any (b p i : Nat) (bad : Bool) (l : List UInt8) (hbp : b ≠ p) (hN : l.length ≤ 1048576) (w : World) (h : Sr C w p b l.length i bad) (hB : By w b l) :
    Calls Try.prog 26 #[.pointer (some ⟨p, 0, none⟩)] w fun e w' => SnR C w w' p b l i bad e := by
  have HBY : Hid (∀ W, w.grownBy W (some p) → By W b l) := fun W hW => hB.grown hW hbp
  have HI0 : Hid (SnI C w w p b l i bad 0 0 i) := ⟨.inl rfl, by simp, Nat.le_refl _, h, grown_refl _ _, fun x tail hx _ => ⟨x, hx, by simp, .inl rfl⟩⟩
  clear h hB
  go_enter Try.func26, Try.ntmps26
  go_wp2
  go_loopw [3, 4, 5] (fun v s _ wr => ∃ (a sh i' : Nat), v = .int .i64 (a : Int) ∧ s = .int .u64 (sh : Int) ∧ SnI C w wr p b l i bad a sh i') (fun _ s _ _ => 28 - (intOf s).toNat)
  case atStart => exact ⟨0, 0, i, rfl, rfl, HI0.out⟩
  case round =>
    obtain ⟨a, sh, i', rfl, rfl, hI⟩ := hrel
    have HII : Hid (SnI C w wr p b l i bad a sh i') := hI
    obtain ⟨c0, c1, c2, fz, hle⟩ := hI.sr
    have fz1 := fz 1
    have fz2 := fz 2
    have hsh := hI.sh7
    clear hI fz
    by_cases hs : sh < 28
    · have hs' : (sh : Int) < 28 := by omega
      obtain ⟨N, hNN⟩ : ∃ N, N = l.length := ⟨_, rfl⟩
      rw [← hNN] at c0
      have HNN : Hid (N = l.length) := hNN
      clear hNN
      by_cases hil : i' < N
      · have hil' : ¬ (N : Int) ≤ (i' : Int) := by omega
        have hil2 : ¬ N ≤ i' := by omega
        have hi0 : (0 : Int) ≤ (i' : Int) := by omega
        have hiN : (i' : Int) < (N : Int) := by omega
        have hil3 : i' < l.length := by rw [← HNN.out]; exact hil
        obtain ⟨y, hy⟩ : ∃ y, y = l[i'] := ⟨_, rfl⟩
        have hyc : wr.cell? ⟨b, i', none⟩ = some (.int .u8 (y.toNat : Int)) := by rw [hy]; exact HBY.out wr HII.out.gr i' hil3
        have HDR : Hid (l.drop i' = y :: l.drop (i' + 1)) := by show _ = _; rw [hy]; exact List.drop_eq_getElem_cons hil3
        have hyb : (y.toNat : Int) < 256 := by have := y.toNat_lt; omega
        clear hy
        go_wp2_with fail
        go_region_held3 (fun w' => w'.cell? ⟨p, 0, none⟩ = some (.slice (some ⟨b, 0, none⟩) N C) ∧ w'.cell? ⟨p, 1, none⟩ = some (.int .i64 (i' : Int))) (first | go_keep) (fail)
        go_wp2_with fail
        go_region_held3 (fun w' => w'.cell? ⟨p, 0, none⟩ = some (.slice (some ⟨b, 0, none⟩) N C) ∧ w'.cell? ⟨p, 1, none⟩ = some (.int .i64 (i' : Int)) ∧ w'.cell? ⟨b, i', none⟩ = some (.int .u8 (y.toNat : Int))) (first | go_keep) (fail)
        have h4 : sh = 0 ∨ sh = 7 ∨ sh = 14 ∨ sh = 21 := by omega
        have hsx := sx_of h4 HII.out.ab y rfl
        obtain ⟨A, hA⟩ : ∃ A, A = a + y.toNat % 128 * 2 ^ sh := ⟨_, rfl⟩
        rw [← hA] at hsx
        have HA : Hid (A = a + y.toNat % 128 * 2 ^ sh) := hA
        obtain ⟨hsx1, hsx2⟩ := hsx
        have HA2 : Hid (A < 2 ^ (sh + 7)) := hsx2
        have HSR : Hid (Sr C (wr.setCell ⟨p, 1, none⟩ (.int .i64 ((i' : Int) + 1))).drew.drew p b l.length (i' + 1) bad) := by
          have := HII.out.sr.setI (j := i' + 1) (by omega)
          rw [show ((i' + 1 : Nat) : Int) = (i' : Int) + 1 by omega] at this
          exact this.drew.drew
        have HGR : Hid (w.grownBy (wr.setCell ⟨p, 1, none⟩ (.int .i64 ((i' : Int) + 1))).drew.drew (some p)) := grown_drew (grown_drew (grown_set HII.out.gr _ _))
        clear hA hsx2
        by_cases hlow : y.toNat < 128
        · have hlow' : (y.toNat : Int) < 128 := by omega
          have HR : Hid (SnR C w (wr.setCell ⟨p, 1, none⟩ (.int .i64 ((i' : Int) + 1))).drew.drew p b l i bad (.returned (.int .i64 (A : Int)))) := by
            refine ⟨A, i' + 1, bad, rfl, ?_, by have := HII.out.le; omega, HSR.out, fun h => h, HGR.out, fun x tail hx hxb => ?_⟩
            · have h1 := HA2.out
              have h2 : 2 ^ (sh + 7) ≤ 2 ^ 28 := Nat.pow_le_pow_right (by omega) (by omega)
              have h3 : (2 : Nat) ^ 28 = 268435456 := rfl
              omega
            · obtain ⟨z, hz, hxe, _⟩ := HII.out.pr x tail hx hxb
              rw [HDR.out] at hz
              by_cases hz1 : z < 128
              · rw [bf.num_low hz1, List.singleton_append, List.cons.injEq] at hz
                have hyz : y.toNat = z := by rw [hz.1, UInt8.toNat_ofNat']; omega
                refine ⟨?_, hz.2, rfl⟩
                rw [HA.out, hyz, Nat.mod_eq_of_lt hz1, hxe]
              · rw [bf.num_high hz1, List.cons_append, List.cons.injEq] at hz
                have hyz : y.toNat = z % 128 + 128 := by rw [hz.1, UInt8.toNat_ofNat']; omega
                omega
          rw [← hsx1] at HR
          go_wp2_with fail
          go_ret
          exact HR.out
        · have hlow' : ¬ (y.toNat : Int) < 128 := by omega
          have HNI : Hid (SnI C w (wr.setCell ⟨p, 1, none⟩ (.int .i64 ((i' : Int) + 1))).drew.drew p b l i bad A (sh + 7) (i' + 1)) := by
            refine ⟨by omega, HA2.out, by have := HII.out.le; omega, HSR.out, HGR.out, fun x tail hx hxb => ?_⟩
            obtain ⟨z, hz, hxe, _⟩ := HII.out.pr x tail hx hxb
            rw [HDR.out] at hz
            by_cases hz1 : z < 128
            · rw [bf.num_low hz1, List.singleton_append, List.cons.injEq] at hz
              have hyz : y.toNat = z := by rw [hz.1, UInt8.toNat_ofNat']; omega
              omega
            · rw [bf.num_high hz1, List.cons_append, List.cons.injEq] at hz
              have hyz : y.toNat = z % 128 + 128 := by rw [hz.1, UInt8.toNat_ofNat']; omega
              have hm : y.toNat % 128 = z % 128 := by omega
              have hsplit : z * 2 ^ sh = z % 128 * 2 ^ sh + z / 128 * (128 * 2 ^ sh) := by
                rw [← Nat.mul_assoc, ← Nat.add_mul]
                congr 1
                omega
              have hpow : 2 ^ (sh + 7) = 128 * 2 ^ sh := by rw [Nat.pow_add]; omega
              exact ⟨z / 128, hz.2, by rw [HA.out, hm, hpow]; omega, .inr (by omega)⟩
          go_wp2_with fail
          exact ⟨⟨A, sh + 7, i' + 1, by rw [hsx1], by go_num, HNI.out⟩, by simp [intOf]; omega⟩
      · have hil' : (N : Int) ≤ (i' : Int) := by omega
        have hil2 : N ≤ i' := by omega
        have HR : Hid (SnR C w (wr.drew.setCell ⟨p, 2, none⟩ (.bool true)) p b l i bad (.returned (.int .i64 0))) := by
          have hsr : Sr C wr.drew p b l.length i' bad := ⟨HII.out.sr.c0, HII.out.sr.c1, HII.out.sr.c2, HII.out.sr.fz, HII.out.sr.le⟩
          have hgr : w.grownBy wr.drew (some p) := ⟨HII.out.gr.os, HII.out.gr.tape, HII.out.gr.output, HII.out.gr.size, HII.out.gr.block⟩
          refine ⟨0, i', true, rfl, by omega, HII.out.le, hsr.setBad, fun _ => rfl, grown_set hgr _ _, fun x tail hx hxb => ?_⟩
          obtain ⟨z, hz, _, _⟩ := HII.out.pr x tail hx hxb
          rw [List.drop_eq_nil_of_le (by rw [← HNN.out]; exact hil2)] at hz
          exact absurd (List.append_eq_nil_iff.1 hz.symm).1 (num_ne z)
        go_wp2_with fail
        go_region_held3 (fun w' => w'.cell? ⟨p, 0, none⟩ = some (.slice (some ⟨b, 0, none⟩) N C) ∧ w'.cell? ⟨p, 1, none⟩ = some (.int .i64 (i' : Int))) (first | go_keep) (fail)
        go_wp2
        go_ret
        exact HR.out
    · have hs' : ¬ (sh : Int) < 28 := by omega
      have HR : Hid (SnR C w (wr.setCell ⟨p, 2, none⟩ (.bool true)) p b l i bad (.returned (.int .i64 0))) := by
        refine ⟨0, i', true, rfl, by omega, HII.out.le, HII.out.sr.setBad, fun _ => rfl, grown_set HII.out.gr _ _, fun x tail hx hxb => ?_⟩
        obtain ⟨z, hz, hxe, hz1⟩ := HII.out.pr x tail hx hxb
        have h28 : sh = 28 := by omega
        subst h28
        exfalso
        have h5 : (2 : Nat) ^ 28 = 268435456 := rfl
        rw [h5] at hxe
        omega
      go_wp2
      go_ret
      exact HR.out

end Go.Proofs.Ytogakignaaoklaa.up
