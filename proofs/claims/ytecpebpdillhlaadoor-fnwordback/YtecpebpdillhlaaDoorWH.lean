import Derived.Test.YtecpebpdillhlaaDoorWA
import Derived.Test.YtecpebpdillhlaaDoorWS
import Derived.Test.YtecpebpdillhlaaDoorWK
import Derived.Test.YtecpebpdillhlaaDoorWN
namespace Go.Proofs.YtecpebpdillhlaaDoor.wd
open Go.ChangeShapes Go.WideShapes Go.ChangeAt Go.RowKit Go.Deep
set_option linter.unusedVariables false

/-- What is put ahead of the content. -/
def pre (k n : ByteArray) : ByteArray := k ++ ⟨#[58]⟩ ++ n ++ ⟨#[58]⟩
def ints (s : ByteArray) : List Int := s.data.toList.map fun x => (x.toNat : Int)

theorem ints_at {s : ByteArray} {i : Nat} (h : i < s.size) : (ints s)[i]?.getD 0 = (s[i].toNat : Int) := by
  unfold ints
  rw [List.getElem?_map, List.getElem?_eq_getElem (by simpa using h)]
  rfl

theorem ints_len (s : ByteArray) : (ints s).length = s.size := by simp [ints]

theorem sumS_congr {l l' : List Int} (h : Int) : ∀ n, (∀ i, i < n → l[i]?.getD 0 = l'[i]?.getD 0) → sm.sumS l h n = sm.sumS l' h n := by
  intro n
  induction n with
  | zero => intro _; rfl
  | succ n ih =>
    intro hl
    simp only [sm.sumS, sm.stepS]
    rw [ih (fun i hi => hl i (by omega)), hl n (by omega)]

theorem sumS_add (l l2 : List Int) (h : Int) (z : Nat) (hz : l.length = z) : ∀ m, sm.sumS (l ++ l2) h (z + m) = sm.sumS l2 (sm.sumS l h z) m := by
  intro m
  induction m with
  | zero =>
    show sm.sumS (l ++ l2) h z = sm.sumS l h z
    exact sumS_congr h z (fun i hi => by rw [List.getElem?_append_left (by omega)])
  | succ m ih =>
    rw [← Nat.add_assoc]
    simp only [sm.sumS, sm.stepS]
    rw [ih, List.getElem?_append_right (by omega), show z + m - l.length = m by omega]

/-- The sum of what stands ahead and of the content. -/
def addrX (k n : ByteArray) (l : List Int) (m : Nat) : Int := sm.lastS (sm.sumS l (sm.sumS (ints (pre k n)) 14695981039346656037 (pre k n).size) m)
def addrA (k n : ByteArray) (l : List Int) (m : Nat) : ByteArray := wordA (addrX k n l m).toNat ++ ⟨#[45]⟩ ++ n

theorem addrX_wf (k n : ByteArray) (l : List Int) (m : Nat) : 0 ≤ addrX k n l m ∧ addrX k n l m ≤ 18446744073709551615 := by
  have h := wf_bits BinOp.xor .u64 (sm.turnS (sm.sumS l (sm.sumS (ints (pre k n)) 14695981039346656037 (pre k n).size) m) 3) (sm.turnS (sm.sumS l (sm.sumS (ints (pre k n)) 14695981039346656037 (pre k n).size) m) 3 / 4294967296)
  have e : addrX k n l m = bits BinOp.xor .u64 (sm.turnS (sm.sumS l (sm.sumS (ints (pre k n)) 14695981039346656037 (pre k n).size) m) 3) (sm.turnS (sm.sumS l (sm.sumS (ints (pre k n)) 14695981039346656037 (pre k n).size) m) 3 / 4294967296) := rfl
  rw [← e] at h
  simpa [Lit.wf, IntKind.min, IntKind.max, IntKind.signed, IntKind.bits] using h

theorem wspec {x : Int} (h : 0 ≤ x ∧ x ≤ 18446744073709551615) (w : World) :
    Calls Tryd.prog 22 #[.int .u64 x] w fun e w' => e = .returned (.string (wordA x.toNat)) ∧ Below w.heap.size w w' := by
  obtain ⟨X, rfl⟩ := Int.eq_ofNat_of_zero_le h.1
  exact spec_any X (by omega) w

theorem wimpl {x : Int} (h : 0 ≤ x ∧ x ≤ 18446744073709551615) (w : World) (hT : Tab w) :
    Calls Tryd.prog 9 #[.int .u64 x] w fun e w' => e = .returned (.string (wordA x.toNat)) ∧ Below w.heap.size w w' := by
  obtain ⟨X, rfl⟩ := Int.eq_ofNat_of_zero_le h.1
  exact impl_any X (by omega) w hT

theorem Bs_conv {w W1 : World} {cap : Nat} {S : ByteArray} (h : ConvRow w W1 cap S) : sm.Bs W1 (some ⟨w.heap.size, 0, none⟩) S.size (ints S) :=
  .inr ⟨w.heap.size, 0, rfl, fun i hi => by rw [Nat.zero_add, h.cells i hi, ints_at hi]⟩

theorem pre_size (k n : ByteArray) : (pre k n).size = k.size + 1 + n.size + 1 := by
  simp [pre, ByteArray.size_append]
  rfl

theorem nspec_h {s : ByteArray} (hs : Hid (s.size ≤ 1048576)) {b : Bool} (h : Hid (nm.nameB s = b)) (w : World) :
    Calls Tryd.prog 14 #[.string s] w fun e w' => e = .returned (.bool b) ∧ w' = w :=
  (nm.spec_any s hs.out w).mono fun e w' ⟨he, hw⟩ => ⟨he.trans (ret_bool h.out), hw⟩

theorem nimpl_h {s : ByteArray} (hs : Hid (s.size ≤ 1048576)) {b : Bool} (h : Hid (nm.nameB s = b)) (w : World) :
    Calls Tryd.prog 28 #[.string s] w fun e w' => e = .returned (.bool b) ∧ w' = w :=
  (nm.impl_any s hs.out w).mono fun e w' ⟨he, hw⟩ => ⟨he.trans (ret_bool h.out), hw⟩

/-- What Address answers. -/
def adrB (k n : ByteArray) (l : List Int) (m : Nat) : ByteArray := if (nm.nameB k && nm.nameB n) = true then addrA k n l m else ⟨#[]⟩

theorem aimpl2_any (k n : ByteArray) (hk : k.size ≤ 1048576) (hn : n.size ≤ 1048576) (b m c : Nat) (l : List Int) (hm : m ≤ 1048576) (w : World) (hT : Tab w) (hb : b < w.heap.size) (hl : ∀ i, i < m → w.cell? ⟨b, i, none⟩ = some (.int .u8 (l[i]?.getD 0))) :
    Calls Tryd.prog 13 #[.string k, .string n, .slice (some ⟨b, 0, none⟩) m c] w fun e w' => e = .returned (.string (adrB k n l m)) ∧ Below w.heap.size w w' := by
  obtain ⟨f, HF⟩ : ∃ f : ByteArray → Bool, Hid (∀ s, f s = nm.nameB s) := ⟨nm.nameB, fun _ => rfl⟩
  have HN : Hid (∀ s : ByteArray, Hid (s.size ≤ 1048576) → ∀ w, Calls Tryd.prog 28 #[.string s] w fun e w' => e = .returned (.bool (f s)) ∧ w' = w) := fun s hs w => nimpl_h hs (HF.out s).symm w
  obtain ⟨p, hP⟩ : ∃ b, f k = b := ⟨_, rfl⟩
  obtain ⟨q, hQ⟩ : ∃ b, f n = b := ⟨_, rfl⟩
  have HA : Hid (adrB k n l m = if (p && q) = true then addrA k n l m else ⟨#[]⟩) := by
    show adrB k n l m = _
    unfold adrB
    rw [← HF.out k, ← HF.out n, hP, hQ]
  have Hk : Hid (k.size ≤ 1048576) := hk
  have Hn : Hid (n.size ≤ 1048576) := hn
  cases p
  · replace HA : Hid (adrB k n l m = ⟨#[]⟩) := by show adrB k n l m = _; rw [HA.out]; simp
    clear hk hn hm hl
    go_enter Tryd.func13, Tryd.ntmps13
    go_wp2_with (go_at_call 28; refine (HN.out _ ?_ _).mono ?_; (first | exact Hk | exact Hn); rintro e w' ⟨rfl, rfl⟩)
    go_ret
    exact ⟨ret_str HA.out.symm, Below.refl _ _⟩
  · cases q
    · replace HA : Hid (adrB k n l m = ⟨#[]⟩) := by show adrB k n l m = _; rw [HA.out]; simp
      clear hk hn hm hl
      go_enter Tryd.func13, Tryd.ntmps13
      go_wp2_with (first
        | (go_at_call 28; refine (HN.out _ ?_ _).mono ?_; (first | exact Hk | exact Hn); rintro e w' ⟨rfl, rfl⟩)
        | fail)
      go_ret
      exact ⟨ret_str HA.out.symm, Below.refl _ _⟩
    · replace HA : Hid (adrB k n l m = addrA k n l m) := by show adrB k n l m = _; rw [HA.out]; simp
      have hps := pre_size k n
      obtain ⟨z, cap, W1, hconv, hz, hC⟩ := conv_row (P := Tryd.prog) w 9 22 5 (pre k n) (by omega) Tryd.underlying9 Tryd.underlying22 Tryd.underlying5
      have hB := hC.below
      have hsz := hB.size
      have HB1 : Hid (sm.Bs W1 (some ⟨w.heap.size, 0, none⟩) z (ints (pre k n))) := by
        show sm.Bs _ _ _ _
        rw [hz]
        exact Bs_conv hC
      have HB2 : Hid (sm.Bs W1 (some ⟨b, 0, none⟩) m l) := .inr ⟨b, 0, rfl, fun i hi => by rw [Nat.zero_add, hB.cell (p := ⟨b, i, none⟩) hb, hl i hi]⟩
      have HN1 : Hid (z ≤ 1099511627776) := by show z ≤ _; omega
      have HN2 : Hid (m ≤ 1099511627776) := by show m ≤ _; omega
      have HS3 : Hid (∀ w, Calls Tryd.prog 30 #[.int .u64 (sm.sumS l (sm.sumS (ints (pre k n)) 14695981039346656037 z) m)] w fun e w' => e = .returned (.int .u64 (addrX k n l m)) ∧ w' = w) := fun w => by
        rw [hz]
        exact sm.last_any _ w
      have HW : Hid (0 ≤ addrX k n l m ∧ addrX k n l m ≤ 18446744073709551615) := addrX_wf k n l m
      have hT1 := hT.below hB
      have hws := wordA_size (addrX k n l m).toNat
      unfold pre at hconv
      clear hz hps hC hm hl
      go_enter Tryd.func13, Tryd.ntmps13
      go_wp2_with (first
        | (go_at_call 28; refine (HN.out _ ?_ _).mono ?_; (first | exact Hk | exact Hn); rintro e w' ⟨rfl, rfl⟩)
        | (go_at_call 29; refine (sm.sumOn_any _ _ _ _ ?_ _ ?_ ?_).mono ?_; rotate_left 1; (first | exact HB1.out | exact HB2.out); (first | exact HN1.out | exact HN2.out); rintro e w' ⟨rfl, rfl⟩)
        | (go_at_call 30; refine (HS3.out _).mono ?_; rintro e w' ⟨rfl, rfl⟩)
        | (go_at_call 9; refine (wimpl HW.out _ hT1).mono ?_; rintro e w3 ⟨rfl, hl3⟩)
        | go_in)
      go_ret
      exact ⟨ret_str HA.out.symm, hB.trans (hl3.mono hsz)⟩

end Go.Proofs.YtecpebpdillhlaaDoor.wd
