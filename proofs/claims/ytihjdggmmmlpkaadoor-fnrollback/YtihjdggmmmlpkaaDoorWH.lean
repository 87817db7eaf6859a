import Derived.Test.YtihjdggmmmlpkaaDoorWA
import Derived.Test.YtihjdggmmmlpkaaDoorWS
import Derived.Test.YtihjdggmmmlpkaaDoorWK
import Derived.Test.YtihjdggmmmlpkaaDoorNA
namespace Go.Proofs.YtihjdggmmmlpkaaDoor.wd
open Go.ChangeShapes Go.WideShapes Go.ChangeAt Go.RowKit Go.Deep
set_option linter.unusedVariables false

/-- What is put ahead of the content. -/
def pre (k n : ByteArray) : ByteArray := k ++ ⟨#[58]⟩ ++ n ++ ⟨#[58]⟩
def ints (s : ByteArray) : List Int := s.data.toList.map fun x => (x.toNat : Int)

theorem ints_at {s : ByteArray} {i : Nat} (h : i < s.size) : (ints s)[i]?.getD 0 = (s[i].toNat : Int) := by
  unfold ints
  rw [List.getElem?_map, List.getElem?_eq_getElem (by simpa using h)]
  rfl

theorem ints_len (s : ByteArray) : (ints s).length = s.size := by simp [ints]

theorem sumS_congr {l l' : List Int} (h : Int) : ∀ n, (∀ i, i < n → l[i]?.getD 0 = l'[i]?.getD 0) → sm.sumS l h n = sm.sumS l' h n := by
  intro n
  induction n with
  | zero => intro _; rfl
  | succ n ih =>
    intro hl
    simp only [sm.sumS, sm.stepS]
    rw [ih (fun i hi => hl i (by omega)), hl n (by omega)]

theorem sumS_add (l l2 : List Int) (h : Int) (z : Nat) (hz : l.length = z) : ∀ m, sm.sumS (l ++ l2) h (z + m) = sm.sumS l2 (sm.sumS l h z) m := by
  intro m
  induction m with
  | zero =>
    show sm.sumS (l ++ l2) h z = sm.sumS l h z
    exact sumS_congr h z (fun i hi => by rw [List.getElem?_append_left (by omega)])
  | succ m ih =>
    rw [← Nat.add_assoc]
    simp only [sm.sumS, sm.stepS]
    rw [ih, List.getElem?_append_right (by omega), show z + m - l.length = m by omega]

/-- The sum of what stands ahead and of the content. -/
def addrX (k n : ByteArray) (l : List Int) (m : Nat) : Int := sm.lastS (sm.sumS l (sm.sumS (ints (pre k n)) 14695981039346656037 (pre k n).size) m)
def addrA (k n : ByteArray) (l : List Int) (m : Nat) : ByteArray := wordA (addrX k n l m).toNat ++ ⟨#[45]⟩ ++ n

theorem addrX_wf (k n : ByteArray) (l : List Int) (m : Nat) : 0 ≤ addrX k n l m ∧ addrX k n l m ≤ 18446744073709551615 := by
  have h := wf_bits BinOp.xor .u64 (sm.turnS (sm.sumS l (sm.sumS (ints (pre k n)) 14695981039346656037 (pre k n).size) m) 3) (sm.turnS (sm.sumS l (sm.sumS (ints (pre k n)) 14695981039346656037 (pre k n).size) m) 3 / 4294967296)
  have e : addrX k n l m = bits BinOp.xor .u64 (sm.turnS (sm.sumS l (sm.sumS (ints (pre k n)) 14695981039346656037 (pre k n).size) m) 3) (sm.turnS (sm.sumS l (sm.sumS (ints (pre k n)) 14695981039346656037 (pre k n).size) m) 3 / 4294967296) := rfl
  rw [← e] at h
  simpa [Lit.wf, IntKind.min, IntKind.max, IntKind.signed, IntKind.bits] using h

theorem wspec {x : Int} (h : 0 ≤ x ∧ x ≤ 18446744073709551615) (w : World) :
    Calls Tryd.prog 77 #[.int .u64 x] w fun e w' => e = .returned (.string (wordA x.toNat)) ∧ Below w.heap.size w w' := by
  obtain ⟨X, rfl⟩ := Int.eq_ofNat_of_zero_le h.1
  exact spec_any X (by omega) w

theorem Bs_conv {w W1 : World} {cap : Nat} {S : ByteArray} (h : ConvRow w W1 cap S) : sm.Bs W1 (some ⟨w.heap.size, 0, none⟩) S.size (ints S) :=
  .inr ⟨w.heap.size, 0, rfl, fun i hi => by rw [Nat.zero_add, h.cells i hi, ints_at hi]⟩

theorem pre_size (k n : ByteArray) : (pre k n).size = k.size + 1 + n.size + 1 := by
  simp [pre, ByteArray.size_append]
  rfl

theorem laddr_any (k n : ByteArray) (hk : k.size ≤ 1048576) (hn : n.size ≤ 1048576) (b m c : Nat) (l : List Int) (hm : m ≤ 1048576) (w : World) (hb : b < w.heap.size) (hl : ∀ i, i < m → w.cell? ⟨b, i, none⟩ = some (.int .u8 (l[i]?.getD 0))) :
    Calls Tryd.prog 55 #[.string k, .string n, .slice (some ⟨b, 0, none⟩) m c] w fun e w' => e = .returned (.string (addrA k n l m)) ∧ Below w.heap.size w w' := by
  have hps := pre_size k n
  obtain ⟨z, cap, W1, hconv, hz, hC⟩ := conv_row (P := Tryd.prog) w 9 22 5 (pre k n) (by omega) Tryd.underlying9 Tryd.underlying22 Tryd.underlying5
  obtain ⟨g, cap2, W2, hrun, h1, h2, hB⟩ := conv_app hC (by omega) 22 5 Tryd.underlying22 info5 b m c l (by omega) hb hl
  rw [← hz] at hrun
  have hbs : Hid (sm.Bs W2 (some ⟨g, 0, none⟩) (z + m) (ints (pre k n) ++ l)) := by
    refine .inr ⟨g, 0, rfl, fun i hi => ?_⟩
    rw [Nat.zero_add]
    by_cases hi' : i < (pre k n).size
    · rw [h1 i hi', List.getElem?_append_left (by rw [ints_len]; exact hi'), ints_at hi']
    · obtain ⟨j, rfl⟩ : ∃ j, i = (pre k n).size + j := ⟨i - (pre k n).size, by omega⟩
      rw [h2 j (by omega), List.getElem?_append_right (by rw [ints_len]; omega), ints_len, show (pre k n).size + j - (pre k n).size = j by omega]
  have hX : Hid (sm.lastS (sm.sumS (ints (pre k n) ++ l) 14695981039346656037 (z + m)) = addrX k n l m) := by
    show _ = addrX k n l m
    rw [sumS_add _ _ _ z (by rw [ints_len, hz])]
    unfold addrX
    rw [hz]
  have hzb : z + m ≤ 1099511627776 := by omega
  have hsum : ∀ (c : Nat), Calls Tryd.prog 78 #[.slice (some ⟨g, 0, none⟩) (z + m) c] W2 fun e w' => e = .returned (.int .u64 (addrX k n l m)) ∧ w' = W2 := fun c =>
    (sm.spec_any _ (z + m) c _ W2 hbs.out hzb).mono fun e w' ⟨he, hw⟩ => ⟨he.trans (ret_int hX.out), hw⟩
  have HS : Hid (∀ (c : Nat), Calls Tryd.prog 78 #[.slice (some ⟨g, 0, none⟩) (z + m) c] W2 fun e w' => e = .returned (.int .u64 (addrX k n l m)) ∧ w' = W2) := hsum
  have HR : Hid (∀ ty, (Builtin.append_ #[22, 22] ty #[.slice (some ⟨w.heap.size, 0, none⟩) z cap, .slice (some ⟨b, 0, none⟩) m c]).run Tryd.prog W1 = .ok (.slice (some ⟨g, 0, none⟩) (z + m) cap2) W2) := hrun
  have hsz := hB.size
  have hW := addrX_wf k n l m
  have HW : Hid (0 ≤ addrX k n l m ∧ addrX k n l m ≤ 18446744073709551615) := hW
  have hws := wordA_size (addrX k n l m).toNat
  unfold pre at hconv
  clear hz hps h1 h2 hsum hrun hC hzb hW
  go_enter Tryd.func55, Tryd.ntmps55
  go_wp2_with (first
    | (at_builtin; refine app_any _ rfl _ _ 22 rfl _ _ rfl rfl _ _ HR.out ?_)
    | (go_at_call 78; refine (HS.out _).mono ?_; rintro e w' ⟨rfl, rfl⟩)
    | (go_at_call 77; refine (wspec HW.out _).mono ?_; rintro e w3 ⟨rfl, hl3⟩)
    | go_in)
  go_ret
  exact ⟨rfl, hB.trans (hl3.mono hsz)⟩

theorem nspec_h {s : ByteArray} (hs : Hid (s.size ≤ 1048576)) {b : Bool} (h : Hid (nm.nameB s = b)) (w : World) :
    Calls Tryd.prog 38 #[.string s] w fun e w' => e = .returned (.bool b) ∧ w' = w :=
  (nm.spec_any s hs.out w).mono fun e w' ⟨he, hw⟩ => ⟨he.trans (ret_bool h.out), hw⟩

theorem nimpl_h {s : ByteArray} (hs : Hid (s.size ≤ 1048576)) {b : Bool} (h : Hid (nm.nameB s = b)) (w : World) :
    Calls Tryd.prog 49 #[.string s] w fun e w' => e = .returned (.bool b) ∧ w' = w :=
  (nm.impl_any s hs.out w).mono fun e w' ⟨he, hw⟩ => ⟨he.trans (ret_bool h.out), hw⟩

/-- What Address answers. -/
def adrB (k n : ByteArray) (l : List Int) (m : Nat) : ByteArray := if (nm.nameB k && nm.nameB n) = true then addrA k n l m else ⟨#[]⟩

end Go.Proofs.YtihjdggmmmlpkaaDoor.wd
